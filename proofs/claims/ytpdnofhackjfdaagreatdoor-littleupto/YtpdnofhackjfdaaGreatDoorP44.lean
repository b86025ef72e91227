/- Package flow's F -/
import Derived.Test.YtpdnofhackjfdaaGreatDoorP43
set_option linter.all false
set_option maxRecDepth 100000
set_option maxHeartbeats 8000000
namespace Go.Proofs.YtpdnofhackjfdaaGreatDoor
open Go.Proofs.Tryz
open Go.RowKit Go.Maps
variable {X:ByteArray} {c:FC} {g:FM} {s:bR} {J:bR->Prop} {o1 o2 o3:Int} {base fb n sb:Nat} {fix au:Nat->Prop} {v:Value} {w w' w1 w2:World}
theorem wL.new{aT:List (Ev×Value)}{s':bR}{c':FC}{cF O:Nat->Prop}(h:wL w fb g X s n c au fix J v aT s' c' cF O w1)(k:aa af w1 w2):wL w fb g X s n c au fix J v aT s' c' cF O w2:=
 ⟨h.at_.new k,h.cO.new k,h.ap,⟨h.dA.kept.bZ k (fun i _ hx=>hx.elim),h.dA.aj⟩,h.rest,h.aW,h.fA,h.wQ,h.full,h.wn,h.j⟩
theorem ahP{pv:Value}(hg:g.Ok)(h:jC w fb g X s c au fix)(pN:s.l=[]->s.mt=none)(hn:s.aW+n<=X.size)(hp:jN w pv (X.extract s.aW (s.aW+n)))(hJ:Kd g X J)(hj:J (s.eG n))(hw:c.wn=0):
 Calls prog 28 #[.pointer (some ⟨fb,0,none⟩),pv] w fun e w'=>∃v aT s' c' cF O,e=.returned (.tuple #[v,.int .i64 0])/\wL w fb g X s n c au fix J v aT s' c' cF O w':=by
 have F:=ab (aoM hg h pN hn hp hJ hj);have p16:w.cell? ⟨fb,16,none⟩=some (.bool false):=by obtain⟨A,hM,_⟩:=h.mem;exact(hM.aj.cell 16).trans (by show some (Value.bool c.ov)=_;rw[h.fc.ov])
 have HW:=ab hw;clear h pN hp hJ hj hw;go_in;go_wp2_with fail;refine(F.o).mono ?_;rintro e w1 ⟨v,aT,s',c',cF,O,rfl,hT⟩;have HT:=ab hT;have p15:w1.cell? ⟨fb,15,none⟩=some (.int .i64 0):=by obtain⟨A,hM,_⟩:=hT.at_.mem;exact(hM.aj.cell 15).trans (by show some (Value.int .i64 c'.wn)=_;rw[hT.wn,HW.o])
 clear F hT p16;go_wp2_with fail;go_quiet (fail);go_wp2_with fail;go_ret2;exact⟨v,aT,s',c',cF,O,rfl,HT.o.new ((aa.refl af w1).drewN nq)⟩
structure CW(w:World)(fb:Nat)(g:FM)(X:ByteArray)(s:bR)(v:Value)(aT:List (Ev×Value))(w':World):Prop where
 cO:gj w' (N8 w w') v X aT
 eq:aT.map (·.1)=s.rest g.ms g.u0 g.G X
 kept:aa (fun i=>i=fb) w w'
theorem ah6{f:Nat}{lx:List (Ev×Nat)}{A:Int}(hg:g.Ok)(hc:N7 X s c)(hk:mI g.ms g.u0 X s)(AO:s.aW=X.size)(wW:f<=s.i)(pf:s.f<=f)(UO:s.b<=f)(lR:∀k,s.b<=k->k<f->eJ g.ms (aO X) g.u0 g.G k=none)
 (hL:DS w fb g c (s.K X) A s.mt.isSome s.l au fix (vO c (s.K X) (aK X f) (X.size:Int) false) v lx w1):∃aT,CW w fb g X s v aT w1:=by
 obtain⟨b1,b2,b3,b4,b5,b6⟩:=hk.u5;have Gk:f<=(aF X).length:=by omega
 have AQ:=fR X pf;have pg:=iQ X f;have U0:=fR X wW;have ff:bd X (aF X).length=X.size:=mP (Ab _);have mT:c.aB=(bd X s.f:Int):=hc.aB;have ml:aK X f=(bd X f:Int):=rfl
 have tU:ki X (vO c (s.K X) (aK X f) (X.size:Int) false) f (aF X).length:=by
  refine⟨?_,rfl,Gk,Ab _,OQ hc pf Gk (by omega) b4,fun _ e a=>?_⟩
  ·show(s.K X).extract (aK X f-c.aB).toNat ((X.size:Int)-c.aB).toNat=_
   rw[show(aK X f-c.aB).toNat=bd X f-bd X s.f by omega,show((X.size:Int)-c.aB).toNat=X.size-bd X s.f by omega,ff];exact bR.range AQ (by omega) (by omega) b4
  ·have:(aO X).gM (aF X).length= -1:=by unfold CX.gM;rw[if_neg (by show¬_<(aF X).length;omega)];rfl
   rw[this];rfl
 generalize VN:vO c (s.K X) (aK X f) (X.size:Int) false=x at tU hL
 have eh:x.op=false:=by rw[<-VN];rfl
 have e1:=agX hg.fL tU eh hg.u0 g.G _ 0 s.told (Ab _);have hR:oI g c x=eP (eJ g.ms x g.u0 g.G) x.n x.aY false 0 s.told:=by unfold oI;rw[eh,hc.tl]
 rw[<-hR]at e1
 have dR:∀p∈lx,p.1.a<=p.1.b/\p.1.b<=x.n/\p.1.gs.length=2*g.G:=fun p hp=>by
  have nN:p.1∈ (oI g c x).1:=by rw[<-hL.eq];exact Bg.2 ⟨p,hp,rfl⟩
  rw[hR]at nN;refine aaJ (P:=fun e=>e.a<=e.b/\e.b<=x.n/\e.gs.length=2*g.G) (xI hg.fL x hg.u0 g.G) (fun i q gq hi hq=>?_) _ _ _ p.1 nN;have:=Hp hg.fL x hg.u0 hi _ _ _ hq;exact⟨this.1,this.2.1,by rw[this.2.2];simp[gK]⟩
 refine⟨_,hL.cO.evL tU dR,?_,hL.kept⟩;unfold bR.rest;rw[TP (a:=f) UO (by omega) lR,Gg]
 have:(lx.map ((fun p:Ev×Value=>p.1) ∘fun p=>(v_ f p.1,Value.slice (some ⟨p.2,0,none⟩) (2*g.G) (2*g.G))))=(oI g c x).1.map (v_ f):=by
  rw[<-hL.eq,Gg];rfl
 rw[this];exact e1.symm
def Sg(fb:Nat)(ka:Option Addr)(kn kc:Nat)(bg:Int)(W:World):Prop:=W.cell? ⟨fb,4,none⟩=some (.slice ka kn kc)/\W.cell? ⟨fb,5,none⟩=some (.int .i64 bg)
theorem agY(hg:g.Ok)(h:jC w fb g X s c au fix)(pN:s.l=[]->s.mt=none)(AO:s.aW=X.size):
 Calls prog 33 #[.pointer (some ⟨fb,0,none⟩)] w fun e w'=>∃v aT,e=.returned (.tuple #[v,.int .i64 0])/\CW w fb g X s v aT w':=by
 obtain⟨A,hM,hA⟩:=h.mem;have hc:=h.fc;have hk:=h.ok;obtain⟨b1,b2,b3,b4,b5,b6⟩:=hk.u5;have aP:=hk.sz;obtain⟨f,f1,f2,f3,f4⟩:=hk.qt.wQ hg.fL hg.u0 g.G pN
 have pf:s.f<=f:=by
  have xc:=hk.low.mono;rw[show yj X s.i s.l=aK X f from f3]at xc;rcases OZ (by have:=hk.low.le;omega) xc with h|h
  ·exact h
  ·have:=hk.low.le;omega
 have AQ:=fR X pf;have pg:=iQ X f;have U0:=fR X f2;have mT:c.aB=(bd X s.f:Int):=hc.aB;have ml:aK X f=(bd X f:Int):=rfl;obtain⟨ka,kc,oB⟩:=cK hM.kp;have p16:w.cell? ⟨fb,16,none⟩=some (.bool false):=(hM.aj.cell 16).trans (by show some (Value.bool c.ov)=_;rw[hc.ov]);have F1:=ab fun(W:World) (k:aa af w W)=>aaY (hM.new k)
 rw[hc.pl,show((s.l.head?.map (·.2)).getD (aK X s.i))=aK X f from f3]at F1;have F2:=ab fun(W:World) (k:aa af w W)=>acE (p:=aK X f) (q:=(X.size:Int)) (op:=false) hg (hM.new k) (by omega) (by omega) (by omega) (by omega) (by omega) (by omega)
 have S1:Hid (∀W,aa af w W->Sg fb ka (s.K X).size kc c.aB W):=fun W k=>by
  have:=hM.aj.kept k (fun hx=>hx);exact⟨by rw[<-oB];exact this.cell 4,this.cell 5⟩
 have ax:Hid (∀W,aa af w W->∀v lx w1,DS W fb g c (s.K X) A s.mt.isSome s.l au fix (vO c (s.K X) (aK X f) (X.size:Int) false) v lx w1->∃aT,CW w fb g X s v aT w1):=fun W k v lx w1 hL=>by
  obtain⟨aT,hC⟩:=ah6 hg hc hk AO f2 pf f1 f4 hL;have hs:=k.size;exact⟨aT,hC.cO.mono (fun i hi=>⟨Bb hs hi.1,hi.2⟩) (fun i hi=>hi.2),hC.eq,(k.mono (S':=fun i=>i=fb) (fun i hx=>hx.elim)).trans hC.kept⟩
 have yn:c.aB+((s.K X).size:Int)=(X.size:Int):=by omega
 have BU:IntKind.i64.wrap (c.aB+((s.K X).size:Int))=(X.size:Int):=by rw[yn];exact zo (by omega) (by omega)
 generalize(s.K X).size=kn at*
 generalize abr:c.aB=bg at*
 generalize aK X f=fv at*
 have YK:=ab (And.intro oB abr);clear h hM hA hc hk b1 b2 b3 b4 b5 b6 f1 f2 f3 f4 pf AQ pg U0 mT ml oB pN AO yn abr;go_in;go_wp2_with fail;refine j9 (Ch (by kernel_rfl) (Cc (S:=Sg fb ka kn kc bg) _ _ _ _ ?_));have ak:=S1.o w.drew (aa.refl _ _).drew;refine ai 0 8 (.pointer (some ⟨fb,0,none⟩)) ak ?_;refine ai 1 9 (.pointer (some ⟨fb,0,none⟩)) ak ?_;refine ai 3 11 (.pointer (some ⟨fb,0,none⟩)) ak ?_;refine ai 4 12 (.pointer (some ⟨fb,0,none⟩)) ak ?_;refine ai 5 13 (.pointer (some ⟨fb,5,none⟩)) ak ?_;refine ai 6 14 (.int .i64 bg) ak ?_;refine ai 7 15 (.pointer (some ⟨fb,0,none⟩)) ak ?_;refine ai 8 16 (.pointer (some ⟨fb,0,none⟩)) ak ?_;refine ai 9 17 (.pointer (some ⟨fb,4,none⟩)) ak ?_;refine ai 10 18 (.slice ka kn kc) ak ?_;refine ai 11 19 (.int .i64 (kn:Int)) ak ?_;refine ai 12 20 (.int .i64 (X.size:Int)) ak ?_;simp only[Act.put,Aa,Ad,Ac];refine bQ 2 fun K hK=>?_
 go_simp;refine(F1.o _ (aa.refl _ _).drew).mono ?_;rintro e w1 ⟨rfl,rfl⟩;dsimp only;refine hK.o _ _ ak (fun _=>?_);clear hK K F1;refine bQ 13 fun K hK=>?_
 go_simp;refine(F2.o _ (aa.refl _ _).drew).mono ?_;rintro e w2 ⟨v,lx,rfl,hL⟩;dsimp only;have kR:Sg fb ka kn kc bg w2:=⟨by rw[<-YK.o.1];exact hL.mem.aj.cell 4,by rw[<-YK.o.2];exact hL.mem.aj.cell 5⟩;have FF:=ab (ax.o _ (aa.refl _ _).drew _ _ _ hL);refine hK.o _ _ kR (fun _=>?_);clear hK K F2 ax hL;refine ai 14 2 v kR ?_;refine ai 15 3 (.int .i64 0) kR ?_;simp only[Act.put,Aa,Ad,Ac];refine At (by kernel_rfl) ?_ _;refine jy ?_;clear S1 ak kR;go_simp;go_wp2_with fail;go_ret2;obtain⟨aT,hC⟩:=FF.o;exact⟨v,aT,rfl,hC⟩
def N5(w:World)(g:FM)(T:TypeId)(e:Ending)(w':World):Prop:=∃(eb:Nat) (au fix:Nat->Prop),e=.returned (.pointer (some ⟨eb,0,none⟩))/\l_ w' (.iface T (.pointer (some ⟨eb,0,none⟩))) g.ms (g.u0:Int) (-1) false [] au fix/\(∀i,au i->w.heap.size<=i)/\(∀i,fix i->g.cM i\/w.heap.size<=i)/\aa af w w'
theorem FM.y8{f:FG}(h1:f.lo=g.lo)(h2:f.hi=g.hi)(h3:f.mb=g.mb)(i:Nat):f.cM i↔g.cM i:=by unfold FG.cM FM.cM;rw[h1,h2,h3]
theorem alz(hg:g.Ok)(hM:jt w g.lo g.hi g.mb g.cc g.vs g.ms):Calls prog 46 #[.agg #[.slice (some ⟨g.mb,0,none⟩) g.ms.length g.cc,.int .i64 (g.u0:Int),.int .i64 (g.G:Int)]] w (N5 w g 125):=by
 refine(als hM hg.bJ).mono ?_;rintro e w' ⟨eb,f,rfl,⟨a1,a2,a3,a4,a5,a6,a7,a8⟩,hE,⟨n1,n2,n3,n4⟩,tW,k⟩;have hm:∀i,f.cM i->i<w.heap.size:=fun i hi=>FM.uv hM ((FM.y8 a1 a2 a3 i).1 hi)
 have hu:=hg.u0;refine⟨eb,_,_,rfl,Or.inl ⟨eb,f,_,_,-1,rfl,⟨?_,?_,?_,tW,?_⟩,⟨⟨a6,a7⟩,?_,?_⟩,fun _ _ _ _ _=>rfl,hE,rfl,rfl⟩,?_,fun i hi=>Or.inl ((FM.y8 a1 a2 a3 i).1 hi),k⟩
 ·rw[a6];exact hg.fL
 ·rw[a6];exact⟨_,hg.q⟩
 ·rw[a6];exact hg.bJ
 ·exact⟨fun h=>by have:=hm _ h;omega,fun h=>by have:=hm _ h;omega,fun h=>by have:=hm _ h;omega⟩
 ·rw[a7];omega
 ·rw[a6,a7];omega
 ·intro i hi;rcases hi with hi|((hi|hi|hi)|hi)|hi
  ·omega
  ·omega
  ·omega
  ·omega
  ·cases hi
  ·cases hi
theorem alu{mo:Int}(hg:g.Ok)(hM:jt w g.lo g.hi g.mb g.cc g.vs g.ms)(hC:oU w g.lo g.hi base (.slice (some ⟨g.mb,0,none⟩) g.ms.length g.cc) g.ms)(gI:2<=mo/\mo<=1000000000):Calls prog 47 #[.agg #[.slice (some ⟨g.mb,0,none⟩) g.ms.length g.cc,.int .i64 (g.u0:Int),.int .i64 (g.G:Int)],.int .i64 mo] w (N5 w g 127):=by
 have hu:=hg.u0;refine(akm hM hC (by omega) hg.bJ gI ⟨hg.fL,_,hg.q⟩ (by omega)).mono ?_;rintro e w' ⟨eb,p,f,x,mv,rfl,⟨a1,a2,a3,a4,a5,a6,a7,a8⟩,hO,hI,hn,FQ,k⟩;refine⟨eb,_,_,rfl,Or.inr ⟨eb,f,x,p,_,[],mv,rfl,hO,⟨a6,a7⟩,?_,rfl,rfl,rfl,fun t ht=>(by cases ht),hI,rfl,rfl⟩,hn,fun i hi=>?_,k⟩
 ·show pD g.ms (-1) (jL f.ms (-1))
  rw[a6];exact Xq g.ms (-1)
 ·rcases hi with hi|⟨az,hi⟩
  ·exact Or.inl ((FM.y8 a1 a2 a3 i).1 hi)
  ·rw[hi];exact Or.inr (FQ az)
def bR.new:bR:=⟨0,0,0,0,0,[],none,-1⟩
def Kc(w:World)(g:FM)(X:ByteArray)(o3:Int)(e:Ending)(w':World):Prop:=∃(fb:Nat) (c:FC) (au fix:Nat->Prop),e=.returned (.pointer (some ⟨fb,0,none⟩))/\jC w' fb g X bR.new c au fix/\(∀i,FO fb c au i->w.heap.size<=i)/\(∀i,fix i->g.cM i\/w.heap.size<=i)/\c.wn=o3/\aa af w w'
def LA(g:FM)(ev:Value)(o3:Int):FC:=⟨g.mv,g.u0,g.G,ev,.slice none 0 0,0,-1,0,0,false,0,-1,0,0,false,o3,false⟩
theorem Kc.of{F:Nat}{T:TypeId}{eb:Nat}(hM:jt w1 g.lo g.hi g.mb g.cc g.vs g.ms)(hX:X.size<=10000000)(hF:w.heap.size<=F/\F<w1.heap.size)(hB:aq w1 F (LA g .nilIface o3).cells 124)(k1:aa af w w1)(hmw:∀i,g.cM i->i<w.heap.size)
 (hE:l_ w2 (.iface T (.pointer (some ⟨eb,0,none⟩))) g.ms (g.u0:Int) (-1) false [] au fix)(ho:∀i,au i->w1.heap.size<=i)(hf:∀i,fix i->g.cM i\/w1.heap.size<=i)(k2:aa af w1 w2):
 Kc w g X o3 (.returned (.pointer (some ⟨F,0,none⟩))) (w2.setCell ⟨F,3,none⟩ (.iface T (.pointer (some ⟨eb,0,none⟩)))):=by
 have cU:=k1.size;have k3:aa (fun i=>i=F) w2 (w2.setCell ⟨F,3,none⟩ (.iface T (.pointer (some ⟨eb,0,none⟩)))):=(aa.refl (fun i=>i=F) w2).setCell (p:=⟨F,3,none⟩) (Or.inl rfl) _;have B2:aq w2 F (LA g .nilIface o3).cells 124:=hB.kept k2 (fun hx=>hx);have Qm:∀i,g.cM i->i≠F:=fun i hi=>by have:=hmw i hi;omega
 refine⟨F,LA g (.iface T (.pointer (some ⟨eb,0,none⟩))) o3,au,fix,rfl,⟨⟨-1,⟨B2.setCell 3 _,(hM.kept k2).MU k3 (fun i hi hm=>Qm i hm hi),rfl,rfl,rfl,?_,?_,fun i hi=>?_,fun i hi=>?_,?_⟩,?_⟩,⟨?_,?_,?_,?_,rfl,rfl,fun a j hm=>(by cases hm),rfl⟩,⟨pF.begin g.ms X g.u0 0 (Ao _),⟨Ab _,fun t ht=>(by cases ht),fun a j hm=>(by cases hm)⟩,Ab _,Ao _,?_,Ao _,hX⟩⟩,fun i hi=>?_,fun i hi=>?_,rfl,?_⟩
 ·refine hE.kept k3 (fun i hi=>⟨fun h=>by have:=ho i h;have hi':i=F:=hi;omega,fun h=>?_⟩);have hi':i=F:=hi;rcases hf i h with h1|h1
  ·exact Qm i h1 hi'
  ·omega
 ·have e:((bR.new).K X)=⟨#[]⟩:=by
   unfold bR.K bR.new;rw[sB];apply Fd;apply Fq.1;rw[Cw];simp
  rw[e];exact⟨rfl,Or.inl ⟨rfl,rfl⟩⟩
 ·have:=ho i hi;exact⟨by omega,fun h=>(by cases h),fun hm=>by have:=hmw i hm;omega⟩
 ·refine⟨?_,fun h=>(by cases h)⟩;rcases hi with hi|hi
  ·rcases hf i hi with h1|h1
   ·exact Qm i h1
   ·omega
  ·exact Qm i hi
 ·exact fun h=>(by cases h)
 ·exact fun _ _ _ _ _=>rfl
 ·show(0:Int)=aK X 0
  unfold aK;rw[sB];rfl
 ·exact uW.zero X
 ·show(0:Int)=aK X 0
  unfold aK;rw[sB];rfl
 ·show(0:Int)=aK X 0
  unfold aK;rw[sB];rfl
 ·show bd X 0<=0
  rw[sB];exact Ab _
 ·rcases hi with hi|hi|hi
  ·have:=ho i hi;omega
  ·omega
  ·cases hi
 ·rcases hf i hi with h1|h1
  ·exact Or.inl h1
  ·exact Or.inr (by omega)
 ·exact(k1.trans k2).setCell (p:=⟨F,3,none⟩) (Or.inr hF.1) _
def X5(B:Nat)(g:FM)(o1 o2 o3:Int)(w':World):Prop:=sq B (some ⟨g.mb,0,none⟩) g.ms.length g.cc (g.u0:Int) (g.G:Int) w'/\w'.cell? ⟨B+1,0,none⟩=some (.int .i64 o1)/\w'.cell? ⟨B+1,1,none⟩=some (.int .i64 o2)/\w'.cell? ⟨B+1,2,none⟩=some (.int .i64 o3)
theorem ah3(hg:g.Ok)(hM:jt w g.lo g.hi g.mb g.cc g.vs g.ms)(hC:oU w g.lo g.hi base (.slice (some ⟨g.mb,0,none⟩) g.ms.length g.cc) g.ms)(hX:X.size<=10000000)(yB:2<=o2/\o2<=1000000000):
 Calls prog 25 #[.agg #[.slice (some ⟨g.mb,0,none⟩) g.ms.length g.cc,.int .i64 (g.u0:Int),.int .i64 (g.G:Int)],.agg #[.int .i64 o1,.int .i64 o2,.int .i64 o3]] w (Kc w g X o3):=by
 have B0:=(aq.new w #[.slice (some ⟨g.mb,0,none⟩) g.ms.length g.cc,.int .i64 (g.u0:Int),.int .i64 (g.G:Int)] 73).alloc (.cells #[.int .i64 o1,.int .i64 o2,.int .i64 o3] 30);have B1:=aq.new (w.alloc (.cells #[.slice (some ⟨g.mb,0,none⟩) g.ms.length g.cc,.int .i64 (g.u0:Int),.int .i64 (g.G:Int)] 73)) #[.int .i64 o1,.int .i64 o2,.int .i64 o3] 30;simp only[ij]at B1;have fG:Hid (∀W,aa af ((w.alloc (.cells #[.slice (some ⟨g.mb,0,none⟩) g.ms.length g.cc,.int .i64 (g.u0:Int),.int .i64 (g.G:Int)] 73)).alloc (.cells #[.int .i64 o1,.int .i64 o2,.int .i64 o3] 30)) W->X5 w.heap.size g o1 o2 o3 W):=fun W k=>⟨sq.of (B0.kept k (fun hx=>hx)),(B1.kept k (fun hx=>hx)).cell 0,(B1.kept k (fun hx=>hx)).cell 1,(B1.kept k (fun hx=>hx)).cell 2⟩
 have K00:Hid (aa af w ((w.alloc (.cells #[.slice (some ⟨g.mb,0,none⟩) g.ms.length g.cc,.int .i64 (g.u0:Int),.int .i64 (g.G:Int)] 73)).alloc (.cells #[.int .i64 o1,.int .i64 o2,.int .i64 o3] 30))):=((aa.refl af w).alloc _).alloc _;have HT:Hid (∀W,aa af w W->Calls prog 46 #[.agg #[.slice (some ⟨g.mb,0,none⟩) g.ms.length g.cc,.int .i64 (g.u0:Int),.int .i64 (g.G:Int)]] W (N5 W g 125)):=fun W k=>alz hg (hM.kept k)
 have HN:Hid (∀W,aa af w W->Calls prog 47 #[.agg #[.slice (some ⟨g.mb,0,none⟩) g.ms.length g.cc,.int .i64 (g.u0:Int),.int .i64 (g.G:Int)],.int .i64 o2] W (N5 W g 127)):=fun W k=>alu hg (hM.kept k) (hC.kept k (fun _ _ _ hx=>hx) (fun _ _ hx=>hx) hM.le) yB
 have ax:Hid (∀(w1 w2:World) (F:Nat) (T:TypeId) (eb:Nat) (au fix:Nat->Prop),aa af w w1->w.heap.size<=F/\F<w1.heap.size->aq w1 F (LA g .nilIface o3).cells 124->l_ w2 (.iface T (.pointer (some ⟨eb,0,none⟩))) g.ms (g.u0:Int) (-1) false [] au fix->(∀i,au i->w1.heap.size<=i)->(∀i,fix i->g.cM i\/w1.heap.size<=i)->aa af w1 w2->Kc w g X o3 (.returned (.pointer (some ⟨F,0,none⟩))) (w2.setCell ⟨F,3,none⟩ (.iface T (.pointer (some ⟨eb,0,none⟩))))):=fun w1 w2 F T eb au fix k1 hF hB hE ho hf k2=>Kc.of (hM.kept k1) hX hF hB k1 (fun i hi=>FM.uv hM hi) hE ho hf k2
 clear B0 B1 hM hC hg;go_in;go_wp2_with fail;go_cut [5] (fun s5 wx=>∃(F:Nat),s5=.pointer (some ⟨F,0,none⟩)/\Hid (aq wx F (LA g .nilIface o3).cells 124)/\w.heap.size+2<=F/\Hid (aa af ((w.alloc (.cells #[.slice (some ⟨g.mb,0,none⟩) g.ms.length g.cc,.int .i64 (g.u0:Int),.int .i64 (g.G:Int)] 73)).alloc (.cells #[.int .i64 o1,.int .i64 o2,.int .i64 o3] 30)) wx))
 case first=>
  refine gW (S:=X5 w.heap.size g o1 o2 o3) 6 (by kernel_rfl) rfl rfl rfl (by kernel_rfl) (by kernel_rfl) ?_;have ak:=fG.o (((w.alloc (.cells #[.slice (some ⟨g.mb,0,none⟩) g.ms.length g.cc,.int .i64 (g.u0:Int),.int .i64 (g.G:Int)] 73)).alloc (.cells #[.int .i64 o1,.int .i64 o2,.int .i64 o3] 30)).drew) (aa.refl _ _).drew;refine ai 0 6 (.agg #[.slice (some ⟨g.mb,0,none⟩) g.ms.length g.cc,.int .i64 (g.u0:Int),.int .i64 (g.G:Int)]) ak ?_;refine ai 2 8 (.pointer (some ⟨w.heap.size+1,2,none⟩)) ak ?_;refine ai 3 9 (.int .i64 o3) ak ?_;simp only[Act.put,Aa,Ad,Ac];refine bQ 1 fun K hK=>?_
  go_simp;refine(alr _).mono ?_;rintro e w5 ⟨rfl,k5⟩;dsimp only;have K5:=ab (((aa.refl af ((w.alloc (.cells #[.slice (some ⟨g.mb,0,none⟩) g.ms.length g.cc,.int .i64 (g.u0:Int),.int .i64 (g.G:Int)] 73)).alloc (.cells #[.int .i64 o1,.int .i64 o2,.int .i64 o3] 30))).drew).trans k5);have s5:=K5.o.size;simp only[ij]at s5;refine hK.o _ _ (fG.o _ K5.o) (fun _=>?_);clear hK K k5;refine bQ 4 fun K hK=>?_
  go_simp;refine hK.o _ _ (fG.o _ K5.o) (fun _=>?_);clear hK K;refine bQ 5 fun K hK=>?_
  go_simp;refine hK.o _ _ (fG.o _ (K5.o.alloc _)) (fun _=>?_);clear hK K;refine At (by kernel_rfl) ?_ _;unfold eN;simp only[Ak,Ah,Ai];go_simp;go_wp2_with fail;go_meet
  case rel=>exact⟨_,rfl,ab (aq.new _ _ _),by omega,ab (K5.o.alloc _)⟩
 case rest=>
  obtain⟨F,rfl,HB,hF,HK⟩:=hcut;have fl:=fG.o _ HK.o;obtain⟨⟨s0,s1,s2⟩,s3,s4,s5⟩:=fl;have KW:=ab (K00.o.trans HK.o);have hFl:=HB.o.lt;by_cases he:o1=1
  ·have hz:(o1==1)=true:=(by simp[he]);clear he;go_wp2_with fail;refine(HT.o _ KW.o).mono ?_;rintro e w6 ⟨eb,au,fix,rfl,hE,ho,hf,k6⟩;have b6:=HB.o.kept k6 (fun hx=>hx);have c3:w6.cell? ⟨F,3,none⟩=some .nilIface:=b6.cell 3;have f3:w6.frozen? ⟨F,3,none⟩=false:=b6.frozen 3;have FF:=ab (ax.o _ _ F _ eb au fix KW.o ⟨by omega,hFl⟩ HB.o hE ho hf k6);clear b6 k6 hE ho hf;go_wp2_with fail;go_ret;exact FF.o
  ·have hz:(o1==1)=false:=(by simp[he]);clear he;go_wp2_with fail;refine(HN.o _ KW.o).mono ?_;rintro e w6 ⟨eb,au,fix,rfl,hE,ho,hf,k6⟩;have b6:=HB.o.kept k6 (fun hx=>hx);have c3:w6.cell? ⟨F,3,none⟩=some .nilIface:=b6.cell 3;have f3:w6.frozen? ⟨F,3,none⟩=false:=b6.frozen 3;have FF:=ab (ax.o _ _ F _ eb au fix KW.o ⟨by omega,hFl⟩ HB.o hE ho hf k6);clear b6 k6 hE ho hf;go_wp2_with fail;go_ret;exact FF.o
def xx(o1 o2 o3:Int):Bool:=decide (0<=o1)&&decide (o1<=2)&&decide (2<=o2)&&decide (o2<=1000)&&decide (0<=o3)&&decide (o3<=1000000)
theorem akZ(w:World)(o1 o2 o3:Int):Calls prog 24 #[.agg #[.int .i64 o1,.int .i64 o2,.int .i64 o3]] w fun e w'=>e=.returned (.bool (xx o1 o2 o3))/\aa af w w':=by
 by_cases h1:(0:Int)<=o1
 ·by_cases h2:o1<=2
  ·by_cases h3:(2:Int)<=o2
   ·by_cases h4:o2<=1000
    ·by_cases h5:(0:Int)<=o3
     ·by_cases h6:o3<=1000000
      ·go_enter func24,ntmps24
       go_wp2_with fail
       go_ret
       exact⟨by simp[xx,h1,h2,h3,h4,h5,h6],(aa.refl af w).alloc _⟩
      ·have h6':decide (o3<=1000000)=false:=Bh h6;go_enter func24,ntmps24;go_wp2_with fail;go_ret;exact⟨by simp[xx,h1,h2,h3,h4,h5]<;>omega,(aa.refl af w).alloc _⟩
     ·have LP:decide ((0:Int)<=o3)=false:=Bh h5;go_enter func24,ntmps24;go_wp2_with fail;go_ret;exact⟨by simp[xx,h1,h2,h3,h4]<;>omega,(aa.refl af w).alloc _⟩
    ·have Ui:decide (o2<=1000)=false:=Bh h4;go_enter func24,ntmps24;go_wp2_with fail;go_ret;exact⟨by simp[xx,h1,h2,h3]<;>omega,(aa.refl af w).alloc _⟩
   ·have yl:decide ((2:Int)<=o2)=false:=Bh h3;go_enter func24,ntmps24;go_wp2_with fail;go_ret;exact⟨by simp[xx,h1,h2]<;>omega,(aa.refl af w).alloc _⟩
  ·have h2':decide (o1<=2)=false:=Bh h2;go_enter func24,ntmps24;go_wp2_with fail;go_ret;exact⟨by simp[xx,h1]<;>omega,(aa.refl af w).alloc _⟩
 ·have gO:decide ((0:Int)<=o1)=false:=Bh h1;go_enter func24,ntmps24;go_wp2_with fail;go_ret;exact⟨by simp[xx]<;>omega,(aa.refl af w).alloc _⟩
structure ri(w:World)(sb fb:Nat)(g:FM)(X:ByteArray)(s:bR)(c:FC)(au fix:Nat->Prop):Prop where
 aj:aq w sb #[.pointer (some ⟨sb,0,none⟩),.pointer (some ⟨fb,0,none⟩)] 79
 at_:jC w fb g X s c au fix
 ap:¬FO fb c au sb/\¬fix sb/\¬g.cM sb
theorem ri.kept{S:Nat->Prop}(h:ri w sb fb g X s c au fix)(k:aa S w w')(hS:∀i,S i->i≠sb/\¬FO fb c au i/\¬fix i/\¬g.cM i):ri w' sb fb g X s c au fix:=
 ⟨h.aj.kept k (fun hs=>(hS sb hs).1 rfl),h.at_.kept k (fun i hi=>(hS i hi).2),h.ap⟩
theorem ri.new(h:ri w sb fb g X s c au fix)(k:aa af w w'):ri w' sb fb g X s c au fix:=h.kept k (fun _ hx=>hx.elim)
structure Iv(p X:ByteArray)(g:FM):Prop where
 ok:g.Ok
 G:g.G=lB p
 iC:∀i,i<=(aF X).length->eJ g.ms (aO X) g.u0 g.G i=CU (nb p) (lB p) (fP X) i
 cM:∃V j,so (nb p) V j/\g.ms=sorted (eY (nb p)).1 V/\V.num.getD j 0=(g.u0:Int)
def afC(w:World)(p X:ByteArray)(o3:Int)(e:Ending)(w':World):Prop:=aa af w w'/\
 ((qP p≠0/\e=.returned (.tuple #[.pointer none,.int .i64 (qP p)]))\/(qP p=0/\∃(sb fb:Nat) (g:FM) (c:FC) (au fix:Nat->Prop),e=.returned (.tuple #[.pointer (some ⟨sb,0,none⟩),.int .i64 0])/\ri w' sb fb g X bR.new c au fix/\Iv p X g/\c.wn=o3/\∀i,FO fb c au i\/i=sb->w.heap.size<=i))
def KX(B P:Nat)(q:Nv)(x:Int)(y:Option Nat)(o1 o2 o3:Int)(w':World):Prop:=(w'.cell? ⟨B,0,none⟩=some (.int .i64 o1)/\w'.cell? ⟨B,1,none⟩=some (.int .i64 o2)/\w'.cell? ⟨B,2,none⟩=some (.int .i64 o3))/\
 w'.cell? ⟨P,0,none⟩=some (.int .i64 q.k)/\w'.cell? ⟨P,1,none⟩=some (.slice q.pa q.pn q.pc)/\w'.cell? ⟨P,2,none⟩=some (.slice q.sa q.sn q.sc)/\w'.cell? ⟨P,3,none⟩=some (.int .i64 q.ed)/\w'.cell? ⟨P,4,none⟩=some (.int .i64 q.gr)/\w'.cell? ⟨P,5,none⟩=some (.int .i64 q.lo)/\w'.cell? ⟨P,6,none⟩=some (.int .i64 q.hi)/\w'.cell? ⟨P,7,none⟩=some (.bool q.lz)/\w'.cell? ⟨P,8,none⟩=some (.int .i64 x)/\w'.cell? ⟨P,9,none⟩=some (.map y)
theorem KX.of{W:World}{B P:Nat}{q:Nv}{x:Int}{y:Option Nat}{t t':TypeId}(h:aq W B #[.int .i64 o1,.int .i64 o2,.int .i64 o3] t)(h':aq W P (gT q x y) t'):KX B P q x y o1 o2 o3 W:=⟨⟨h.cell 0,h.cell 1,h.cell 2⟩,h'.NM⟩
theorem alW(p X:ByteArray)(w:World)(hp:p.size<=maxLen)(hX:X.size<=10000000)(hT:jf w)(o1 o2 o3:Int)(ho:xx o1 o2 o3=true):
 Calls prog 14 #[.string p,.agg #[.int .i64 o1,.int .i64 o2,.int .i64 o3]] w (afC w p X o3):=by
 have HT:=ab hT;have B0:=aq.new w #[.int .i64 o1,.int .i64 o2,.int .i64 o3] 30;have HB:=ab B0;have K0:Hid (aa af w (w.alloc (.cells #[.int .i64 o1,.int .i64 o2,.int .i64 o3] 30))):=(aa.refl af w).alloc _;have jl:(w.alloc (.cells #[.int .i64 o1,.int .i64 o2,.int .i64 o3] 30)).heap.size=w.heap.size+1:=by simp
 have HO:=ab ho;clear hT B0 ho;by_cases hl:300<p.size
 ·have e1:qP p=1:=if_pos hl;have F:=ab (anh p (w.alloc (.cells #[.int .i64 o1,.int .i64 o2,.int .i64 o3] 30)) hl hp);have HE:=ab e1;clear e1;go_in;go_wp2_with fail;refine(F.o).mono ?_;rintro e w1 ⟨rfl,k1⟩;have K1:=ab (K0.o.trans k1);clear k1 F;simp only[tt,gT];go_wp2_with fail;go_ret2;refine⟨?_,Or.inl ⟨by rw[HE.o];decide,by rw[HE.o];rfl⟩⟩;exact K1.o.alloc _
 ·have w_:p.size<=300:=by omega
  have F:=ab (ani p (w.alloc (.cells #[.int .i64 o1,.int .i64 o2,.int .i64 o3] 30)) w_);go_in;go_wp2_with fail;generalize(w.alloc (.cells #[.int .i64 o1,.int .i64 o2,.int .i64 o3] 30))=w0 at*;refine(F.o).mono ?_;rintro e w1 ⟨g,q,x,y,st,kE,nO,rfl,k1,bC,dD⟩;obtain⟨a1,a2,a3⟩:=apo kE nO;rw[a1]at bC dD;rw[a2,a3]at dD;have Qv:(pick (lK g p)).1=qP p:=by unfold qP;rw[if_neg hl,a3]
  have abR:(pick (lK (mF p) p)).1=qP p:=by unfold qP;rw[if_neg hl]
  rw[Qv];rw[abR]at dD;clear Qv abR a1 a2 a3 kE nO;generalize(pick (lK g p)).2=pl;have K1:=ab (K0.o.trans k1);have ix:=ab (HB.o.kept k1 (fun hx=>hx));have s1:=k1.size;clear k1 F HB;by_cases he:qP p=0
  ·obtain⟨hx,hy,Ji,xi,BL⟩:=dD he;obtain⟨c1,c2,c3,c4⟩:=adX w_ he;have hG:x=(lB p:Int):=by rw[hx,bC];rfl
   have hGb:lB p<=100000:=by
    have h1:=Ji.aR;have h2:=(Ji.next);have h3:=Ji.len;have h4:st.aR=lB p:=by rw[bC];rfl
    simp only at h1 h2;omega
   have PV:(nb p).sz<=1000:=by have:=xi.size_eq;rw[show nb p=pL (mF p) (di p)from rfl,this];exact c2
   subst hG;have HE:=ab he;have DO:Hid (cI w1 w0.heap.size w1.heap.size q (dY (mF p) (di p)).2 (nb p)):=xi;rw[he];clear hx hy Ji xi BL dD bC he c2;simp only[tt,gT];have L1:=ab (And.intro (ix.o.alloc (.cells #[.int .i64 q.k,.slice q.pa q.pn q.pc,.slice q.sa q.sn q.sc,.int .i64 q.ed,.int .i64 q.gr,.int .i64 q.lo,.int .i64 q.hi,.bool q.lz,.int .i64 (lB p:Int),.map y] 67)) (aq.new w1 #[.int .i64 q.k,.slice q.pa q.pn q.pc,.slice q.sa q.sn q.sc,.int .i64 q.ed,.int .i64 q.gr,.int .i64 q.lo,.int .i64 q.hi,.bool q.lz,.int .i64 (lB p:Int),.map y] 67));have td:Hid (aa af w1 (w1.alloc (.cells #[.int .i64 q.k,.slice q.pa q.pn q.pc,.slice q.sa q.sn q.sc,.int .i64 q.ed,.int .i64 q.gr,.int .i64 q.lo,.int .i64 q.hi,.bool q.lz,.int .i64 (lB p:Int),.map y] 67))):=(aa.refl af w1).alloc _;have d0:w1.cell? ⟨w.heap.size,0,none⟩=some (.int .i64 o1):=ix.o.cell 0;have d1:w1.cell? ⟨w.heap.size,1,none⟩=some (.int .i64 o2):=ix.o.cell 1;have d2:w1.cell? ⟨w.heap.size,2,none⟩=some (.int .i64 o3):=ix.o.cell 2;have aji:w.heap.size<w1.heap.size:=(by omega);go_wp2_with fail;refine(akZ _ o1 o2 o3).mono ?_;rintro e w2 ⟨rfl,k2⟩;rw[HO.o];have If:=ab (And.intro (L1.o.1.kept k2 (fun hx=>hx)) (L1.o.2.kept k2 (fun hx=>hx)));have K2:=ab (td.o.trans k2);have s2:=K2.o.size;have fG:Hid (∀W,aa af w2 W->KX w.heap.size w1.heap.size q (lB p:Int) y o1 o2 o3 W):=(fun W k=>KX.of (If.o.1.kept k (fun hx=>hx)) (If.o.2.kept k (fun hx=>hx)));have afw:=ab (DO.o.kept K2.o (fun _ _ _ hx=>hx) (Ab _));clear L1 td k2 d0 d1 d2 DO;go_wp2_with fail;refine gW (S:=KX w.heap.size w1.heap.size q (lB p:Int) y o1 o2 o3) 6 (by kernel_rfl) rfl rfl rfl (by kernel_rfl) (by kernel_rfl) ?_;have ak:=fG.o w2.drew (aa.refl _ _).drew;refine ai 0 24 (.agg #[.int .i64 q.k,.slice q.pa q.pn q.pc,.slice q.sa q.sn q.sc,.int .i64 q.ed,.int .i64 q.gr,.int .i64 q.lo,.int .i64 q.hi,.bool q.lz,.int .i64 (lB p:Int),.map y]) ak ?_;refine ai 2 26 (.agg #[.int .i64 o1,.int .i64 o2,.int .i64 o3]) ak ?_;simp only[Act.put,Aa,Ad,Ac];refine bQ 1 fun K hK=>?_
   have F:=afA (afw.o.kept ((aa.refl af w2).drew) (fun _ _ _ hx=>hx) (by omega)) (by show w1.heap.size<=w2.heap.size;omega) c1 PV (lB p:Int) y;simp only[tt,gT]at F;have F:=ab F;go_simp;refine(F.o).mono ?_;rintro e w5 ⟨v5,V,j,rfl,k5,gI,Qo,cT⟩;dsimp only;have K5:=ab (((aa.refl af w2).drew).trans k5);have Y8:=ab ((K1.o.trans K2.o).trans K5.o);refine hK.o _ _ (fG.o _ K5.o) (fun _=>?_);clear hK K F;have s5:=K5.o.size;obtain⟨u0,yD,jY⟩:=gI.start;have Vt:=gI.adj.1;have ib:(sorted (eY (nb p)).1 V).length=V.aL.length:=(by simp[sorted]);obtain⟨mb,cc,vs,gQ,Vm⟩:=Qo.ma (by intro e;have:=congrArg List.length e;rw[ib]at this;have h0:V.aL.length=0:=this;omega) (by omega) (HT.o.jZ Y8.o);obtain⟨G,vn⟩:∃G:FM,G=⟨w0.heap.size,w1.heap.size,mb,cc,vs,sorted (eY (nb p)).1 V,u0,lB p⟩:=⟨_,rfl⟩
   have UA:Iv p X G:=by
    rw[vn];refine⟨⟨gI.fL (Tx c3 c4),aoi (Tx c3 c4),by show(sorted (eY (nb p)).1 V).length<=4001;rw[ib];omega,by show u0<(sorted (eY (nb p)).1 V).length;rw[ib];exact jY,hGb⟩,rfl,fun i hi=>?_,V,j,gI,rfl,yD⟩;exact anO (gI.fL (Tx c3 c4)) X (gI.iC c1 PV c3 (fP X) yD hi (gK (lB p))) hi
   have Vn:jt w5 G.lo G.hi G.mb G.cc G.vs G.ms:=by rw[vn];exact Vm
   have Qp:∃base,oU w5 G.lo G.hi base (.slice (some ⟨G.mb,0,none⟩) G.ms.length G.cc) G.ms:=by rw[vn];rw[gQ]at Qo;exact⟨_,Qo⟩
   obtain⟨aqU,Qp⟩:=Qp;have yB:2<=o2/\o2<=1000000000:=by have:=HO.o;simp[xx]at this;omega
   have F2:=ab (ah3 (X:=X) (o1:=o1) (o3:=o3) UA.ok Vn Qp hX yB);have hv6:v5=.slice (some ⟨G.mb,0,none⟩) G.ms.length G.cc:=by rw[vn];exact gQ
   have BP:V.num.getD j 0=(G.u0:Int):=by rw[vn];exact yD
   have hv8:(lB p:Int)=(G.G:Int):=(by rw[vn]);rw[hv6,BP];have afx:=ab UA;have HMW:Hid (∀i,G.cM i->i<w5.heap.size):=(fun i hi=>FM.uv Vn hi);have HG8:=ab hv8;clear gI Qo Vm Vn Qp ib Vt cT k5 gQ hv6 BP hv8 yD jY UA vn yB;refine bQ 3 fun K hK=>?_
   go_simp;rw[show(lB p:Int)=(G.G:Int)from HG8.o];refine(F2.o).mono ?_;rintro e w6 ⟨fb,c,au,fix,rfl,hA,hO,hf,QH,k6⟩;dsimp only;have K6:=ab (K5.o.trans k6);refine hK.o _ _ (fG.o _ K6.o) (fun _=>?_);clear hK K F2;have ap0:fb<w6.heap.size:=by obtain⟨A,hM,_⟩:=hA.mem;exact hM.aj.lt
   have DJ:Hid (∀i,FO fb c au i\/fix i\/G.cM i->i<w6.heap.size):=fun i hi=>by obtain⟨A,hM,_⟩:=hA.mem;exact hM.lt hi
   have HOW:Hid (∀i,FO fb c au i->w.heap.size<=i):=(fun i hi=>Bb Y8.o.size (hO i hi));have HA:=ab (And.intro hA QH);clear hA QH hO hf;refine bQ 4 fun K hK=>?_
   go_simp;refine hK.o _ _ (fG.o _ K6.o) (fun _=>?_);clear hK K;refine bQ 5 fun K hK=>?_
   go_simp;refine hK.o _ _ (fG.o _ (K6.o.alloc _)) (fun _=>?_);clear hK K;refine At (by kernel_rfl) ?_ _;unfold eN;simp only[Ak,Ah,Ai];go_simp;go_wp2_with fail;go_ret2;have KW:=((K1.o.trans K2.o).trans K6.o);refine⟨KW.alloc _,Or.inr ⟨HE.o,w6.heap.size,fb,G,c,au,fix,rfl,⟨?_,?_,?_⟩,afx.o,HA.o.2,fun i hi=>hi.elim (HOW.o i) (fun e=>by rw[e];exact KW.size)⟩⟩
   ·exact aq.new w6 _ _
   ·exact HA.o.1.new ((aa.refl af w6).alloc _)
   ·exact⟨fun h=>by have:=DJ.o _ (Or.inl h);omega,fun h=>by have:=DJ.o _ (Or.inr (Or.inl h));omega,fun h=>by have:=DJ.o _ (Or.inr (Or.inr h));omega⟩
  ·obtain⟨pe,Ij⟩:∃pe,Hid (qP p=pe):=⟨_,(rfl:_=_)⟩
   rw[Ij.o]at he⊢;have az:(pe !=0)=true:=(by simpa using he);have HE:=ab he;simp only[tt,gT];clear dD he;go_wp2_with fail;go_ret2;exact⟨K1.o.alloc _,Or.inl ⟨by rw[Ij.o];exact HE.o,by rw[Ij.o];rfl⟩⟩
theorem agG(a b c:Value)(w:World):CallsD prog 48 #[a,b,c] .returning w fun e u' w'=>e=.returned (.tuple #[])/\u'=.returning/\w'=w:=by
 refine callsD_of_wpS func48 rfl fun c₀ cs hu=>?_
 apply wpS_seq
 apply wpS_region
 simp[wpOpsS,go_sem,recoverD,hu,ntmps48,Exit.thenS]
 refine wpS_cond (t:=false) (by simp[Act.eval,Array.replicate]) ?_;simp only[Aq,if_false];refine wpS_of_wp (wp_skip ?_)
 cases c₀;simp_all[bodyPostS,results,results48]
theorem ahs(W:World)(d b:Nat):(Op.equalIn (d+1) 38 (.pointer (some ⟨b,0,none⟩)) (.pointer (some ⟨b,0,none⟩))).run prog W=.ok true W:=by
 have h:prog.underlying 38=some (.pointer 79):=underlying38;simp[Op.equalIn,Gh h,sameAddr]
theorem aht(W:World)(b:Nat):(Op.equal 38 (.pointer (some ⟨b,0,none⟩)) (.pointer (some ⟨b,0,none⟩))).run prog W=.ok true W:=ahs W 9999 b
theorem Ws(W:World)(b:Nat):(binOp .neq 38 (.pointer (some ⟨b,0,none⟩)) (.pointer (some ⟨b,0,none⟩))).run prog W=.ok (.bool false) W:=by
 simp only[binOp];simp[aht W b]
def wI(w W:World)(i:Nat):Prop:=i<w.heap.size\/W.heap.size<=i
theorem abe{N:Nat}{cv:Value}{P:Value->Int->World->Prop}(hB:aq w sb #[.pointer (some ⟨sb,0,none⟩),.pointer (some ⟨fb,0,none⟩)] 79)(I3:∀a W,(callFunc N a).run prog W=.ok (.enter N a) W)
 (Ma:∀W,aa af w W->w.heap.size+3<=W.heap.size->Calls prog N #[.pointer (some ⟨fb,0,none⟩),cv] W fun e w'=>∃(ao:Option Addr) (n c:Nat) (er:Int),e=.returned (.tuple #[.slice ao n c,.int .i64 er])/\P (.slice ao n c) er w'/\aa (wI w W) W w'):
 Calls prog 26 #[.pointer (some ⟨sb,0,none⟩),.func (.func N) #[] #[cv]] w fun e w'=>∃(v:Value) (er:Int) (w1:World),e=.returned (.tuple #[v,.int .i64 er])/\P v er w1/\w.heap.size+3<=w1.heap.size/\aa (fun i=>i=w.heap.size+1\/i=w.heap.size+2) w1 w':=by
 have Vo:∀(fn:Fn) (first cap:Array Value) (w:World),(Instr.makeFunc fn first cap).run prog w=.ok (.func fn first cap) w:=fun _ _ _ _=>rfl
 have Mv:∀W,(binOp .neq 38 (.pointer (some ⟨sb,0,none⟩)) (.pointer (some ⟨sb,0,none⟩))).run prog W=.ok (.bool false) W:=fun W=>Ws W sb
 have aw:=hB.lt;have K0:aa af w (((w.alloc (.cells #[.pointer (some ⟨sb,0,none⟩)] 38)).alloc (.cells #[.slice none 0 0] 24)).alloc (.cells #[.int .i64 0] 25)):=(((aa.refl af w).alloc _).alloc _).alloc _;have L0:aq (((w.alloc (.cells #[.pointer (some ⟨sb,0,none⟩)] 38)).alloc (.cells #[.slice none 0 0] 24)).alloc (.cells #[.int .i64 0] 25)) w.heap.size #[.pointer (some ⟨sb,0,none⟩)] 38:=((aq.new w #[.pointer (some ⟨sb,0,none⟩)] 38).alloc _).alloc _
 have L1:aq (((w.alloc (.cells #[.pointer (some ⟨sb,0,none⟩)] 38)).alloc (.cells #[.slice none 0 0] 24)).alloc (.cells #[.int .i64 0] 25)) (w.heap.size+1) #[.slice none 0 0] 24:=by
  have:=(aq.new (w.alloc (.cells #[.pointer (some ⟨sb,0,none⟩)] 38)) #[.slice none 0 0] 24).alloc (.cells #[.int .i64 0] 25);simpa using this
 have L2:aq (((w.alloc (.cells #[.pointer (some ⟨sb,0,none⟩)] 38)).alloc (.cells #[.slice none 0 0] 24)).alloc (.cells #[.int .i64 0] 25)) (w.heap.size+1+1) #[.int .i64 0] 25:=by
  have:=aq.new ((w.alloc (.cells #[.pointer (some ⟨sb,0,none⟩)] 38)).alloc (.cells #[.slice none 0 0] 24)) #[.int .i64 0] 25;simpa using this
 have aP:(((w.alloc (.cells #[.pointer (some ⟨sb,0,none⟩)] 38)).alloc (.cells #[.slice none 0 0] 24)).alloc (.cells #[.int .i64 0] 25)).heap.size=w.heap.size+3:=by simp
 have HB:=ab (hB.kept K0 (fun hx=>hx));have HC:=ab Ma;clear hB Ma;go_enter_defers func26,ntmps26;go_wp2_with fail;generalize(((w.alloc (.cells #[.pointer (some ⟨sb,0,none⟩)] 38)).alloc (.cells #[.slice none 0 0] 24)).alloc (.cells #[.int .i64 0] 25))=W at*;have d0:W.cell? ⟨w.heap.size,0,none⟩=some (.pointer (some ⟨sb,0,none⟩)):=L0.cell 0;have e0:W.cell? ⟨sb,0,none⟩=some (.pointer (some ⟨sb,0,none⟩)):=HB.o.cell 0;have e1:W.cell? ⟨sb,1,none⟩=some (.pointer (some ⟨fb,0,none⟩)):=HB.o.cell 1;have KK:=ab K0;have HL:=ab (And.intro L1 L2);clear K0 L0 L1 L2;go_big_quiet (fail);have K1:=ab (KK.o.drewN nq);have DR:Hid (aq (W.drewN nq) (w.heap.size+1) #[.slice none 0 0] 24/\aq (W.drewN nq) (w.heap.size+1+1) #[.int .i64 0] 25):=HL.o;have d0':(W.drewN nq).cell? ⟨w.heap.size,0,none⟩=some (.pointer (some ⟨sb,0,none⟩)):=d0;have sD:(W.drewN nq).cell? ⟨sb,1,none⟩=some (.pointer (some ⟨fb,0,none⟩)):=e1;have ajL:(W.drewN nq).heap.size=w.heap.size+3:=aP;generalize W.drewN nq=W1 at*;clear d0 e0 e1 KK HL aP;go_wp2_with fail;refine(HC.o W1 K1.o (by omega)).mono ?_;rintro e w2 ⟨ao,n,c,er,rfl,hP,k2⟩;have b1:=DR.o.1.kept k2 (show¬wI w W1 (w.heap.size+1) by unfold wI;omega);have b2:=DR.o.2.kept k2 (show¬wI w W1 (w.heap.size+1+1) by unfold wI;omega);have g1:w2.cell? ⟨w.heap.size+1,0,none⟩=some (.slice none 0 0):=b1.cell 0;have g2:w2.cell? ⟨w.heap.size+1+1,0,none⟩=some (.int .i64 0):=b2.cell 0;have f1:w2.frozen? ⟨w.heap.size+1,0,none⟩=false:=b1.frozen 0;have f2:w2.frozen? ⟨w.heap.size+1+1,0,none⟩=false:=b2.frozen 0;have HP:=ab hP;have gg:=k2.size;have tD:=ab (And.intro b1 b2);clear hP k2 b1 b2 HC DR;have b9:=(tD.o.1.setCell 0 (.slice ao n c)).y9 (p:=⟨w.heap.size+1+1,0,none⟩) (show w.heap.size+1≠w.heap.size+1+1 by omega) (.int .i64 er);have c9:=(tD.o.2.y9 (p:=⟨w.heap.size+1,0,none⟩) (show w.heap.size+1+1≠w.heap.size+1 by omega) (.slice ao n c)).setCell 0 (.int .i64 er);have r1:((w2.setCell ⟨w.heap.size+1,0,none⟩ (.slice ao n c)).setCell ⟨w.heap.size+1+1,0,none⟩ (.int .i64 er)).cell? ⟨w.heap.size+1,0,none⟩=some (.slice ao n c):=b9.cell 0;have r2:((w2.setCell ⟨w.heap.size+1,0,none⟩ (.slice ao n c)).setCell ⟨w.heap.size+1+1,0,none⟩ (.int .i64 er)).cell? ⟨w.heap.size+1+1,0,none⟩=some (.int .i64 er):=c9.cell 0;have k9:Hid (aa (fun i=>i=w.heap.size+1\/i=w.heap.size+2) w2 ((w2.setCell ⟨w.heap.size+1,0,none⟩ (.slice ao n c)).setCell ⟨w.heap.size+1+1,0,none⟩ (.int .i64 er))):=((aa.refl (fun i=>i=w.heap.size+1\/i=w.heap.size+2) w2).setCell (p:=⟨w.heap.size+1,0,none⟩) (Or.inl (Or.inl rfl)) _).setCell (p:=⟨w.heap.size+1+1,0,none⟩) (Or.inl (Or.inr rfl)) _;clear b9 c9;go_wp2_with fail;generalize((w2.setCell ⟨w.heap.size+1,0,none⟩ (.slice ao n c)).setCell ⟨w.heap.size+1+1,0,none⟩ (.int .i64 er))=w9 at*;refine leaves_cons (f:=48) (args:=#[.pointer (some ⟨w.heap.size,0,none⟩),.pointer (some ⟨w.heap.size+1,0,none⟩),.pointer (some ⟨w.heap.size+1+1,0,none⟩)]) (by simp) (by simp[go_sem]) ?_;refine(agG _ _ _ _).mono ?_;rintro e u' pB ⟨rfl,rfl,rfl⟩;simp[Leaves,settle,results,results26,go_sem,r1,r2];exact⟨_,_,⟨rfl,rfl⟩,w2,HP.o,by omega,k9.o⟩
