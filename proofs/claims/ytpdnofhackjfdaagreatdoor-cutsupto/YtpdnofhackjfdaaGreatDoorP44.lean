/- Package flow's Feed and Close, without a window -/
import Derived.Test.YtpdnofhackjfdaaGreatDoorP43
set_option linter.all false
set_option maxRecDepth 100000
set_option maxHeartbeats 8000000
namespace Go.Proofs.YtpdnofhackjfdaaGreatDoor
open Go.Proofs.Tryz
open Go.RowKit Go.Maps
variable {X:ByteArray} {c:FC} {g:FM} {s:bZ} {J:bZ->Prop} {o1 o2 o3:Int} {base fb n sb:Nat} {fix au:Nat->Prop} {v:Value} {w w' w1 w2:World}
theorem wJ.new{aP:List (Ev×Value)}{s':bZ}{c':FC}{cJ O:Nat->Prop}(h:wJ w fb g X s n c au fix J v aP s' c' cJ O w1)(k:aa af w1 w2):wJ w fb g X s n c au fix J v aP s' c' cJ O w2:=
 ⟨h.at_.new k,h.cS.new k,h.ap,⟨h.dD.kept.bV k (fun i _ hx=>hx.elim),h.dD.ak⟩,h.rest,h.aX,h.fu,h.zV,h.full,h.wn,h.j⟩
theorem ahG{pv:Value}(hg:g.Ok)(h:jz w fb g X s c au fix)(pK:s.l=[]->s.mt=none)(hn:s.aX+n<=X.size)(hp:jL w pv (X.extract s.aX (s.aX+n)))(hJ:NS g X J)(hj:J (s.eV n))(hw:c.wn=0):
 Calls prog 28 #[.pointer (some ⟨fb,0,none⟩),pv] w fun e w'=>∃v aP s' c' cJ O,e=.returned (.tuple #[v,.int .i64 0])/\wJ w fb g X s n c au fix J v aP s' c' cJ O w':=by
 have F:=ab (aoa hg h pK hn hp hJ hj);have p16:w.cell? ⟨fb,16,none⟩=some (.bool false):=by obtain⟨A,hM,_⟩:=h.mem;exact(hM.ak.cell 16).trans (by show some (Value.bool c.ov)=_;rw[h.fc.ov])
 have HW:=ab hw;clear h pK hp hJ hj hw;go_in;go_wp2_with fail;refine(F.out).mono ?_;rintro e w1 ⟨v,aP,s',c',cJ,O,rfl,hT⟩;have HT:=ab hT;have p15:w1.cell? ⟨fb,15,none⟩=some (.int .i64 0):=by obtain⟨A,hM,_⟩:=hT.at_.mem;exact(hM.ak.cell 15).trans (by show some (Value.int .i64 c'.wn)=_;rw[hT.wn,HW.out])
 clear F hT p16;go_wp2_with fail;go_quiet (fail);go_wp2_with fail;go_ret2;exact⟨v,aP,s',c',cJ,O,rfl,HT.out.new ((aa.refl af w1).drewN nq)⟩
structure CC(w:World)(fb:Nat)(g:FM)(X:ByteArray)(s:bZ)(v:Value)(aP:List (Ev×Value))(w':World):Prop where
 cS:eW w' (NQ w w') v X aP
 eq:aP.map (·.1)=s.rest g.ms g.u0 g.G X
 kept:aa (fun i=>i=fb) w w'
theorem ahT{f:Nat}{lx:List (Ev×Nat)}{A:Int}(hg:g.Ok)(hc:NP X s c)(hk:mV g.ms g.u0 X s)(rE:s.aX=X.size)(ET:f<=s.i)(tU:s.f<=f)(hbf:s.b<=f)(nH:∀k,s.b<=k->k<f->eG g.ms (aM X) g.u0 g.G k=none)
 (hL:C_ w fb g c (s.K X) A s.mt.isSome s.l au fix (vQ c (s.K X) (aN X f) (X.size:Int) false) v lx w1):∃aP,CC w fb g X s v aP w1:=by
 obtain⟨b1,b2,b3,b4,b5,b6⟩:=hk.yg;have EU:f<=(aF X).length:=by omega
 have AJ:=fY X tU;have oY:=iP X f;have UM:=fY X ET;have f_:bd X (aF X).length=X.size:=nf (Ab _);have mJ:c.aB=(bd X s.f:Int):=hc.aB;have pJ:aN X f=(bd X f:Int):=rfl
 have tR:jZ X (vQ c (s.K X) (aN X f) (X.size:Int) false) f (aF X).length:=by
  refine⟨?_,rfl,EU,Ab _,OF hc tU EU (by omega) b4,fun _ e a=>?_⟩
  ·show(s.K X).extract (aN X f-c.aB).toNat ((X.size:Int)-c.aB).toNat=_
   rw[show(aN X f-c.aB).toNat=bd X f-bd X s.f by omega,show((X.size:Int)-c.aB).toNat=X.size-bd X s.f by omega,f_];exact bZ.range AJ (by omega) (by omega) b4
  ·have:(aM X).gM (aF X).length= -1:=by unfold CX.gM;rw[if_neg (by show¬_<(aF X).length;omega)];rfl
   rw[this];rfl
 generalize Vy:vQ c (s.K X) (aN X f) (X.size:Int) false=x at tR hL
 have dY:x.op=false:=by rw[<-Vy];rfl
 have e1:=agW hg.ft tR dY hg.u0 g.G _ 0 s.told (Ab _);have hR:oA g c x=eM (eG g.ms x g.u0 g.G) x.n x.aW false 0 s.told:=by unfold oA;rw[dY,hc.tl]
 rw[<-hR]at e1
 have dR:∀p∈lx,p.1.a<=p.1.b/\p.1.b<=x.n/\p.1.gs.length=2*g.G:=fun p hp=>by
  have om:p.1∈ (oA g c x).1:=by rw[<-hL.eq];exact Bf.2 ⟨p,hp,rfl⟩
  rw[hR]at om;refine TC (P:=fun e=>e.a<=e.b/\e.b<=x.n/\e.gs.length=2*g.G) (wh hg.ft x hg.u0 g.G) (fun i q gq hi hq=>?_) _ _ _ p.1 om;have:=BZ hg.ft x hg.u0 hi _ _ _ hq;exact⟨this.1,this.2.1,by rw[this.2.2];simp[gH]⟩
 refine⟨_,hL.cS.evL tR dR,?_,hL.kept⟩;unfold bZ.rest;rw[TD (a:=f) hbf (by omega) nH,Fz]
 have:(lx.map ((fun p:Ev×Value=>p.1) ∘fun p=>(vY f p.1,Value.slice (some ⟨p.2,0,none⟩) (2*g.G) (2*g.G))))=(oA g c x).1.map (vY f):=by
  rw[<-hL.eq,Fz];rfl
 rw[this];exact e1.symm
def RZ(fb:Nat)(ka:Option Addr)(kn kc:Nat)(bg:Int)(W:World):Prop:=W.cell? ⟨fb,4,none⟩=some (.slice ka kn kc)/\W.cell? ⟨fb,5,none⟩=some (.int .i64 bg)
theorem agX(hg:g.Ok)(h:jz w fb g X s c au fix)(pK:s.l=[]->s.mt=none)(rE:s.aX=X.size):
 Calls prog 33 #[.pointer (some ⟨fb,0,none⟩)] w fun e w'=>∃v aP,e=.returned (.tuple #[v,.int .i64 0])/\CC w fb g X s v aP w':=by
 obtain⟨A,hM,hA⟩:=h.mem;have hc:=h.fc;have hk:=h.ok;obtain⟨b1,b2,b3,b4,b5,b6⟩:=hk.yg;have aS:=hk.sz;obtain⟨f,f1,f2,f3,f4⟩:=hk.rp.zV hg.ft hg.u0 g.G pK
 have tU:s.f<=f:=by
  have FU:=hk.low.mono;rw[show zW X s.i s.l=aN X f from f3]at FU;rcases Tj (by have:=hk.low.le;omega) FU with h|h
  ·exact h
  ·have:=hk.low.le;omega
 have AJ:=fY X tU;have oY:=iP X f;have UM:=fY X f2;have mJ:c.aB=(bd X s.f:Int):=hc.aB;have pJ:aN X f=(bd X f:Int):=rfl;obtain⟨ka,kc,oj⟩:=cA hM.kp;have p16:w.cell? ⟨fb,16,none⟩=some (.bool false):=(hM.ak.cell 16).trans (by show some (Value.bool c.ov)=_;rw[hc.ov]);have F1:=ab fun(W:World) (k:aa af w W)=>aa5 (hM.new k)
 rw[hc.pl,show((s.l.head?.map (·.2)).getD (aN X s.i))=aN X f from f3]at F1;have F2:=ab fun(W:World) (k:aa af w W)=>acH (p:=aN X f) (q:=(X.size:Int)) (op:=false) hg (hM.new k) (by omega) (by omega) (by omega) (by omega) (by omega) (by omega)
 have S1:Hid (∀W,aa af w W->RZ fb ka (s.K X).size kc c.aB W):=fun W k=>by
  have:=hM.ak.kept k (fun hx=>hx);exact⟨by rw[<-oj];exact this.cell 4,this.cell 5⟩
 have ax:Hid (∀W,aa af w W->∀v lx w1,C_ W fb g c (s.K X) A s.mt.isSome s.l au fix (vQ c (s.K X) (aN X f) (X.size:Int) false) v lx w1->∃aP,CC w fb g X s v aP w1):=fun W k v lx w1 hL=>by
  obtain⟨aP,hC⟩:=ahT hg hc hk rE f2 tU f1 f4 hL;have hs:=k.size;exact⟨aP,hC.cS.mono (fun i hi=>⟨Be hs hi.1,hi.2⟩) (fun i hi=>hi.2),hC.eq,(k.mono (S':=fun i=>i=fb) (fun i hx=>hx.elim)).trans hC.kept⟩
 have yp:c.aB+((s.K X).size:Int)=(X.size:Int):=by omega
 have rO:IntKind.i64.wrap (c.aB+((s.K X).size:Int))=(X.size:Int):=by rw[yp];exact zm (by omega) (by omega)
 generalize(s.K X).size=kn at*
 generalize abw:c.aB=bg at*
 generalize aN X f=fv at*
 have YI:=ab (And.intro oj abw);clear h hM hA hc hk b1 b2 b3 b4 b5 b6 f1 f2 f3 f4 tU AJ oY UM mJ pJ oj pK rE yp abw;go_in;go_wp2_with fail;refine jW (Cf (by kernel_rfl) (Cd (S:=RZ fb ka kn kc bg) _ _ _ _ ?_));have aj:=S1.out w.drew (aa.refl _ _).drew;refine ai 0 8 (.pointer (some ⟨fb,0,none⟩)) aj ?_;refine ai 1 9 (.pointer (some ⟨fb,0,none⟩)) aj ?_;refine ai 3 11 (.pointer (some ⟨fb,0,none⟩)) aj ?_;refine ai 4 12 (.pointer (some ⟨fb,0,none⟩)) aj ?_;refine ai 5 13 (.pointer (some ⟨fb,5,none⟩)) aj ?_;refine ai 6 14 (.int .i64 bg) aj ?_;refine ai 7 15 (.pointer (some ⟨fb,0,none⟩)) aj ?_;refine ai 8 16 (.pointer (some ⟨fb,0,none⟩)) aj ?_;refine ai 9 17 (.pointer (some ⟨fb,4,none⟩)) aj ?_;refine ai 10 18 (.slice ka kn kc) aj ?_;refine ai 11 19 (.int .i64 (kn:Int)) aj ?_;refine ai 12 20 (.int .i64 (X.size:Int)) aj ?_;simp only[Act.put,Aa,Ad,Ac];refine bN 2 fun K hK=>?_
 go_simp;refine(F1.out _ (aa.refl _ _).drew).mono ?_;rintro e w1 ⟨rfl,rfl⟩;dsimp only;refine hK.out _ _ aj (fun _=>?_);clear hK K F1;refine bN 13 fun K hK=>?_
 go_simp;refine(F2.out _ (aa.refl _ _).drew).mono ?_;rintro e w2 ⟨v,lx,rfl,hL⟩;dsimp only;have kM:RZ fb ka kn kc bg w2:=⟨by rw[<-YI.out.1];exact hL.mem.ak.cell 4,by rw[<-YI.out.2];exact hL.mem.ak.cell 5⟩;have FF:=ab (ax.out _ (aa.refl _ _).drew _ _ _ hL);refine hK.out _ _ kM (fun _=>?_);clear hK K F2 ax hL;refine ai 14 2 v kM ?_;refine ai 15 3 (.int .i64 0) kM ?_;simp only[Act.put,Aa,Ad,Ac];refine At (by kernel_rfl) ?_ _;refine jw ?_;clear S1 aj kM;go_simp;go_wp2_with fail;go_ret2;obtain⟨aP,hC⟩:=FF.out;exact⟨v,aP,rfl,hC⟩
def NM(w:World)(g:FM)(T:TypeId)(e:Ending)(w':World):Prop:=∃(eb:Nat) (au fix:Nat->Prop),e=.returned (.pointer (some ⟨eb,0,none⟩))/\lZ w' (.iface T (.pointer (some ⟨eb,0,none⟩))) g.ms (g.u0:Int) (-1) false [] au fix/\(∀i,au i->w.heap.size<=i)/\(∀i,fix i->g.cI i\/w.heap.size<=i)/\aa af w w'
theorem FM.sh{f:FG}(h1:f.lo=g.lo)(h2:f.hi=g.hi)(h3:f.mb=g.mb)(i:Nat):f.cI i↔g.cI i:=by unfold FG.cI FM.cI;rw[h1,h2,h3]
theorem alb(hg:g.Ok)(hM:jb w g.lo g.hi g.mb g.cc g.vs g.ms):Calls prog 46 #[.agg #[.slice (some ⟨g.mb,0,none⟩) g.ms.length g.cc,.int .i64 (g.u0:Int),.int .i64 (g.G:Int)]] w (NM w g 125):=by
 refine(ak7 hM hg.bT).mono ?_;rintro e w' ⟨eb,f,rfl,⟨a1,a2,a3,a4,a5,a6,a7,a8⟩,hE,⟨n1,n2,n3,n4⟩,tT,k⟩;have hm:∀i,f.cI i->i<w.heap.size:=fun i hi=>FM.uu hM ((FM.sh a1 a2 a3 i).1 hi)
 have hu:=hg.u0;refine⟨eb,_,_,rfl,Or.inl ⟨eb,f,_,_,-1,rfl,⟨?_,?_,?_,tT,?_⟩,⟨⟨a6,a7⟩,?_,?_⟩,fun _ _ _ _ _=>rfl,hE,rfl,rfl⟩,?_,fun i hi=>Or.inl ((FM.sh a1 a2 a3 i).1 hi),k⟩
 ·rw[a6];exact hg.ft
 ·rw[a6];exact⟨_,hg.q⟩
 ·rw[a6];exact hg.bT
 ·exact⟨fun h=>by have:=hm _ h;omega,fun h=>by have:=hm _ h;omega,fun h=>by have:=hm _ h;omega⟩
 ·rw[a7];omega
 ·rw[a6,a7];omega
 ·intro i hi;rcases hi with hi|((hi|hi|hi)|hi)|hi
  ·omega
  ·omega
  ·omega
  ·omega
  ·cases hi
  ·cases hi
theorem ak8{mo:Int}(hg:g.Ok)(hM:jb w g.lo g.hi g.mb g.cc g.vs g.ms)(hC:oN w g.lo g.hi base (.slice (some ⟨g.mb,0,none⟩) g.ms.length g.cc) g.ms)(fL:2<=mo/\mo<=1000000000):Calls prog 47 #[.agg #[.slice (some ⟨g.mb,0,none⟩) g.ms.length g.cc,.int .i64 (g.u0:Int),.int .i64 (g.G:Int)],.int .i64 mo] w (NM w g 127):=by
 have hu:=hg.u0;refine(aj5 hM hC (by omega) hg.bT fL ⟨hg.ft,_,hg.q⟩ (by omega)).mono ?_;rintro e w' ⟨eb,p,f,x,mv,rfl,⟨a1,a2,a3,a4,a5,a6,a7,a8⟩,hO,hI,hn,EI,k⟩;refine⟨eb,_,_,rfl,Or.inr ⟨eb,f,x,p,_,[],mv,rfl,hO,⟨a6,a7⟩,?_,rfl,rfl,rfl,fun t ht=>(by cases ht),hI,rfl,rfl⟩,hn,fun i hi=>?_,k⟩
 ·show pw g.ms (-1) (jJ f.ms (-1))
  rw[a6];exact Xf g.ms (-1)
 ·rcases hi with hi|⟨az,hi⟩
  ·exact Or.inl ((FM.sh a1 a2 a3 i).1 hi)
  ·rw[hi];exact Or.inr (EI az)
def bZ.new:bZ:=⟨0,0,0,0,0,[],none,-1⟩
def JV(w:World)(g:FM)(X:ByteArray)(o3:Int)(e:Ending)(w':World):Prop:=∃(fb:Nat) (c:FC) (au fix:Nat->Prop),e=.returned (.pointer (some ⟨fb,0,none⟩))/\jz w' fb g X bZ.new c au fix/\(∀i,FO fb c au i->w.heap.size<=i)/\(∀i,fix i->g.cI i\/w.heap.size<=i)/\c.wn=o3/\aa af w w'
def Lk(g:FM)(ev:Value)(o3:Int):FC:=⟨g.mv,g.u0,g.G,ev,.slice none 0 0,0,-1,0,0,false,0,-1,0,0,false,o3,false⟩
theorem JV.of{F:Nat}{T:TypeId}{eb:Nat}(hM:jb w1 g.lo g.hi g.mb g.cc g.vs g.ms)(hX:X.size<=10000000)(hF:w.heap.size<=F/\F<w1.heap.size)(hB:aq w1 F (Lk g .nilIface o3).cells 124)(k1:aa af w w1)(hmw:∀i,g.cI i->i<w.heap.size)
 (hE:lZ w2 (.iface T (.pointer (some ⟨eb,0,none⟩))) g.ms (g.u0:Int) (-1) false [] au fix)(ho:∀i,au i->w1.heap.size<=i)(hf:∀i,fix i->g.cI i\/w1.heap.size<=i)(k2:aa af w1 w2):
 JV w g X o3 (.returned (.pointer (some ⟨F,0,none⟩))) (w2.setCell ⟨F,3,none⟩ (.iface T (.pointer (some ⟨eb,0,none⟩)))):=by
 have cR:=k1.size;have k3:aa (fun i=>i=F) w2 (w2.setCell ⟨F,3,none⟩ (.iface T (.pointer (some ⟨eb,0,none⟩)))):=(aa.refl (fun i=>i=F) w2).setCell (p:=⟨F,3,none⟩) (Or.inl rfl) _;have B2:aq w2 F (Lk g .nilIface o3).cells 124:=hB.kept k2 (fun hx=>hx);have Qb:∀i,g.cI i->i≠F:=fun i hi=>by have:=hmw i hi;omega
 refine⟨F,Lk g (.iface T (.pointer (some ⟨eb,0,none⟩))) o3,au,fix,rfl,⟨⟨-1,⟨B2.setCell 3 _,(hM.kept k2).MG k3 (fun i hi hm=>Qb i hm hi),rfl,rfl,rfl,?_,?_,fun i hi=>?_,fun i hi=>?_,?_⟩,?_⟩,⟨?_,?_,?_,?_,rfl,rfl,fun a j hm=>(by cases hm),rfl⟩,⟨pz.begin g.ms X g.u0 0 (Am _),⟨Ab _,fun t ht=>(by cases ht),fun a j hm=>(by cases hm)⟩,Ab _,Am _,?_,Am _,hX⟩⟩,fun i hi=>?_,fun i hi=>?_,rfl,?_⟩
 ·refine hE.kept k3 (fun i hi=>⟨fun h=>by have:=ho i h;have hi':i=F:=hi;omega,fun h=>?_⟩);have hi':i=F:=hi;rcases hf i h with h1|h1
  ·exact Qb i h1 hi'
  ·omega
 ·have e:((bZ.new).K X)=⟨#[]⟩:=by
   unfold bZ.K bZ.new;rw[sC];apply E9;apply Fi.1;rw[Cu];simp
  rw[e];exact⟨rfl,Or.inl ⟨rfl,rfl⟩⟩
 ·have:=ho i hi;exact⟨by omega,fun h=>(by cases h),fun hm=>by have:=hmw i hm;omega⟩
 ·refine⟨?_,fun h=>(by cases h)⟩;rcases hi with hi|hi
  ·rcases hf i hi with h1|h1
   ·exact Qb i h1
   ·omega
  ·exact Qb i hi
 ·exact fun h=>(by cases h)
 ·exact fun _ _ _ _ _=>rfl
 ·show(0:Int)=aN X 0
  unfold aN;rw[sC];rfl
 ·exact uY.zero X
 ·show(0:Int)=aN X 0
  unfold aN;rw[sC];rfl
 ·show(0:Int)=aN X 0
  unfold aN;rw[sC];rfl
 ·show bd X 0<=0
  rw[sC];exact Ab _
 ·rcases hi with hi|hi|hi
  ·have:=ho i hi;omega
  ·omega
  ·cases hi
 ·rcases hf i hi with h1|h1
  ·exact Or.inl h1
  ·exact Or.inr (by omega)
 ·exact(k1.trans k2).setCell (p:=⟨F,3,none⟩) (Or.inr hF.1) _
def XV(B:Nat)(g:FM)(o1 o2 o3:Int)(w':World):Prop:=su B (some ⟨g.mb,0,none⟩) g.ms.length g.cc (g.u0:Int) (g.G:Int) w'/\w'.cell? ⟨B+1,0,none⟩=some (.int .i64 o1)/\w'.cell? ⟨B+1,1,none⟩=some (.int .i64 o2)/\w'.cell? ⟨B+1,2,none⟩=some (.int .i64 o3)
theorem ahR(hg:g.Ok)(hM:jb w g.lo g.hi g.mb g.cc g.vs g.ms)(hC:oN w g.lo g.hi base (.slice (some ⟨g.mb,0,none⟩) g.ms.length g.cc) g.ms)(hX:X.size<=10000000)(FY:2<=o2/\o2<=1000000000):
 Calls prog 25 #[.agg #[.slice (some ⟨g.mb,0,none⟩) g.ms.length g.cc,.int .i64 (g.u0:Int),.int .i64 (g.G:Int)],.agg #[.int .i64 o1,.int .i64 o2,.int .i64 o3]] w (JV w g X o3):=by
 have B0:=(aq.new w #[.slice (some ⟨g.mb,0,none⟩) g.ms.length g.cc,.int .i64 (g.u0:Int),.int .i64 (g.G:Int)] 73).alloc (.cells #[.int .i64 o1,.int .i64 o2,.int .i64 o3] 30);have B1:=aq.new (w.alloc (.cells #[.slice (some ⟨g.mb,0,none⟩) g.ms.length g.cc,.int .i64 (g.u0:Int),.int .i64 (g.G:Int)] 73)) #[.int .i64 o1,.int .i64 o2,.int .i64 o3] 30;simp only[ib]at B1;have fD:Hid (∀W,aa af ((w.alloc (.cells #[.slice (some ⟨g.mb,0,none⟩) g.ms.length g.cc,.int .i64 (g.u0:Int),.int .i64 (g.G:Int)] 73)).alloc (.cells #[.int .i64 o1,.int .i64 o2,.int .i64 o3] 30)) W->XV w.heap.size g o1 o2 o3 W):=fun W k=>⟨su.of (B0.kept k (fun hx=>hx)),(B1.kept k (fun hx=>hx)).cell 0,(B1.kept k (fun hx=>hx)).cell 1,(B1.kept k (fun hx=>hx)).cell 2⟩
 have K00:Hid (aa af w ((w.alloc (.cells #[.slice (some ⟨g.mb,0,none⟩) g.ms.length g.cc,.int .i64 (g.u0:Int),.int .i64 (g.G:Int)] 73)).alloc (.cells #[.int .i64 o1,.int .i64 o2,.int .i64 o3] 30))):=((aa.refl af w).alloc _).alloc _;have HT:Hid (∀W,aa af w W->Calls prog 46 #[.agg #[.slice (some ⟨g.mb,0,none⟩) g.ms.length g.cc,.int .i64 (g.u0:Int),.int .i64 (g.G:Int)]] W (NM W g 125)):=fun W k=>alb hg (hM.kept k)
 have HN:Hid (∀W,aa af w W->Calls prog 47 #[.agg #[.slice (some ⟨g.mb,0,none⟩) g.ms.length g.cc,.int .i64 (g.u0:Int),.int .i64 (g.G:Int)],.int .i64 o2] W (NM W g 127)):=fun W k=>ak8 hg (hM.kept k) (hC.kept k (fun _ _ _ hx=>hx) (fun _ _ hx=>hx) hM.le) FY
 have ax:Hid (∀(w1 w2:World) (F:Nat) (T:TypeId) (eb:Nat) (au fix:Nat->Prop),aa af w w1->w.heap.size<=F/\F<w1.heap.size->aq w1 F (Lk g .nilIface o3).cells 124->lZ w2 (.iface T (.pointer (some ⟨eb,0,none⟩))) g.ms (g.u0:Int) (-1) false [] au fix->(∀i,au i->w1.heap.size<=i)->(∀i,fix i->g.cI i\/w1.heap.size<=i)->aa af w1 w2->JV w g X o3 (.returned (.pointer (some ⟨F,0,none⟩))) (w2.setCell ⟨F,3,none⟩ (.iface T (.pointer (some ⟨eb,0,none⟩))))):=fun w1 w2 F T eb au fix k1 hF hB hE ho hf k2=>JV.of (hM.kept k1) hX hF hB k1 (fun i hi=>FM.uu hM hi) hE ho hf k2
 clear B0 B1 hM hC hg;go_in;go_wp2_with fail;go_cut [5] (fun s5 wx=>∃(F:Nat),s5=.pointer (some ⟨F,0,none⟩)/\Hid (aq wx F (Lk g .nilIface o3).cells 124)/\w.heap.size+2<=F/\Hid (aa af ((w.alloc (.cells #[.slice (some ⟨g.mb,0,none⟩) g.ms.length g.cc,.int .i64 (g.u0:Int),.int .i64 (g.G:Int)] 73)).alloc (.cells #[.int .i64 o1,.int .i64 o2,.int .i64 o3] 30)) wx))
 case first=>
  refine gW (S:=XV w.heap.size g o1 o2 o3) 6 (by kernel_rfl) rfl rfl rfl (by kernel_rfl) (by kernel_rfl) ?_;have aj:=fD.out (((w.alloc (.cells #[.slice (some ⟨g.mb,0,none⟩) g.ms.length g.cc,.int .i64 (g.u0:Int),.int .i64 (g.G:Int)] 73)).alloc (.cells #[.int .i64 o1,.int .i64 o2,.int .i64 o3] 30)).drew) (aa.refl _ _).drew;refine ai 0 6 (.agg #[.slice (some ⟨g.mb,0,none⟩) g.ms.length g.cc,.int .i64 (g.u0:Int),.int .i64 (g.G:Int)]) aj ?_;refine ai 2 8 (.pointer (some ⟨w.heap.size+1,2,none⟩)) aj ?_;refine ai 3 9 (.int .i64 o3) aj ?_;simp only[Act.put,Aa,Ad,Ac];refine bN 1 fun K hK=>?_
  go_simp;refine(acZ _).mono ?_;rintro e w5 ⟨rfl,k5⟩;dsimp only;have K5:=ab (((aa.refl af ((w.alloc (.cells #[.slice (some ⟨g.mb,0,none⟩) g.ms.length g.cc,.int .i64 (g.u0:Int),.int .i64 (g.G:Int)] 73)).alloc (.cells #[.int .i64 o1,.int .i64 o2,.int .i64 o3] 30))).drew).trans k5);have s5:=K5.out.size;simp only[ib]at s5;refine hK.out _ _ (fD.out _ K5.out) (fun _=>?_);clear hK K k5;refine bN 4 fun K hK=>?_
  go_simp;refine hK.out _ _ (fD.out _ K5.out) (fun _=>?_);clear hK K;refine bN 5 fun K hK=>?_
  go_simp;refine hK.out _ _ (fD.out _ (K5.out.alloc _)) (fun _=>?_);clear hK K;refine At (by kernel_rfl) ?_ _;unfold eJ;simp only[Al,Ag,Ai];go_simp;go_wp2_with fail;go_meet
  case rel=>exact⟨_,rfl,ab (aq.new _ _ _),by omega,ab (K5.out.alloc _)⟩
 case rest=>
  obtain⟨F,rfl,HB,hF,HK⟩:=hcut;have fl:=fD.out _ HK.out;obtain⟨⟨s0,s1,s2⟩,s3,s4,s5⟩:=fl;have KW:=ab (K00.out.trans HK.out);have hFl:=HB.out.lt;by_cases he:o1=1
  ·have hz:(o1==1)=true:=(by simp[he]);clear he;go_wp2_with fail;refine(HT.out _ KW.out).mono ?_;rintro e w6 ⟨eb,au,fix,rfl,hE,ho,hf,k6⟩;have b6:=HB.out.kept k6 (fun hx=>hx);have c3:w6.cell? ⟨F,3,none⟩=some .nilIface:=b6.cell 3;have f3:w6.frozen? ⟨F,3,none⟩=false:=b6.frozen 3;have FF:=ab (ax.out _ _ F _ eb au fix KW.out ⟨by omega,hFl⟩ HB.out hE ho hf k6);clear b6 k6 hE ho hf;go_wp2_with fail;go_ret;exact FF.out
  ·have hz:(o1==1)=false:=(by simp[he]);clear he;go_wp2_with fail;refine(HN.out _ KW.out).mono ?_;rintro e w6 ⟨eb,au,fix,rfl,hE,ho,hf,k6⟩;have b6:=HB.out.kept k6 (fun hx=>hx);have c3:w6.cell? ⟨F,3,none⟩=some .nilIface:=b6.cell 3;have f3:w6.frozen? ⟨F,3,none⟩=false:=b6.frozen 3;have FF:=ab (ax.out _ _ F _ eb au fix KW.out ⟨by omega,hFl⟩ HB.out hE ho hf k6);clear b6 k6 hE ho hf;go_wp2_with fail;go_ret;exact FF.out
def th(o1 o2 o3:Int):Bool:=decide (0<=o1)&&decide (o1<=2)&&decide (2<=o2)&&decide (o2<=1000)&&decide (0<=o3)&&decide (o3<=1000000)
theorem akF(w:World)(o1 o2 o3:Int):Calls prog 24 #[.agg #[.int .i64 o1,.int .i64 o2,.int .i64 o3]] w fun e w'=>e=.returned (.bool (th o1 o2 o3))/\aa af w w':=by
 by_cases h1:(0:Int)<=o1
 ·by_cases h2:o1<=2
  ·by_cases h3:(2:Int)<=o2
   ·by_cases h4:o2<=1000
    ·by_cases h5:(0:Int)<=o3
     ·by_cases h6:o3<=1000000
      ·go_enter func24,ntmps24
       go_wp2_with fail
       go_ret
       exact⟨by simp[th,h1,h2,h3,h4,h5,h6],(aa.refl af w).alloc _⟩
      ·have h6':decide (o3<=1000000)=false:=Bd h6;go_enter func24,ntmps24;go_wp2_with fail;go_ret;exact⟨by simp[th,h1,h2,h3,h4,h5]<;>omega,(aa.refl af w).alloc _⟩
     ·have Lw:decide ((0:Int)<=o3)=false:=Bd h5;go_enter func24,ntmps24;go_wp2_with fail;go_ret;exact⟨by simp[th,h1,h2,h3,h4]<;>omega,(aa.refl af w).alloc _⟩
    ·have T6:decide (o2<=1000)=false:=Bd h4;go_enter func24,ntmps24;go_wp2_with fail;go_ret;exact⟨by simp[th,h1,h2,h3]<;>omega,(aa.refl af w).alloc _⟩
   ·have yn:decide ((2:Int)<=o2)=false:=Bd h3;go_enter func24,ntmps24;go_wp2_with fail;go_ret;exact⟨by simp[th,h1,h2]<;>omega,(aa.refl af w).alloc _⟩
  ·have h2':decide (o1<=2)=false:=Bd h2;go_enter func24,ntmps24;go_wp2_with fail;go_ret;exact⟨by simp[th,h1]<;>omega,(aa.refl af w).alloc _⟩
 ·have gP:decide ((0:Int)<=o1)=false:=Bd h1;go_enter func24,ntmps24;go_wp2_with fail;go_ret;exact⟨by simp[th]<;>omega,(aa.refl af w).alloc _⟩
structure sA(w:World)(sb fb:Nat)(g:FM)(X:ByteArray)(s:bZ)(c:FC)(au fix:Nat->Prop):Prop where
 ak:aq w sb #[.pointer (some ⟨sb,0,none⟩),.pointer (some ⟨fb,0,none⟩)] 79
 at_:jz w fb g X s c au fix
 ap:¬FO fb c au sb/\¬fix sb/\¬g.cI sb
theorem sA.kept{S:Nat->Prop}(h:sA w sb fb g X s c au fix)(k:aa S w w')(hS:∀i,S i->i≠sb/\¬FO fb c au i/\¬fix i/\¬g.cI i):sA w' sb fb g X s c au fix:=
 ⟨h.ak.kept k (fun hs=>(hS sb hs).1 rfl),h.at_.kept k (fun i hi=>(hS i hi).2),h.ap⟩
theorem sA.new(h:sA w sb fb g X s c au fix)(k:aa af w w'):sA w' sb fb g X s c au fix:=h.kept k (fun _ hx=>hx.elim)
structure KD(p X:ByteArray)(g:FM):Prop where
 ok:g.Ok
 G:g.G=gG p
 iy:∀i,i<=(aF X).length->eG g.ms (aM X) g.u0 g.G i=Hf (lA p) (gG p) (ig X) i
 cI:∃V j,ss (lA p) V j/\g.ms=sorted (e_ (lA p)).1 V/\V.num.getD j 0=(g.u0:Int)
def afG(w:World)(p X:ByteArray)(o3:Int)(e:Ending)(w':World):Prop:=aa af w w'/\
 ((fN p≠0/\e=.returned (.tuple #[.pointer none,.int .i64 (fN p)]))\/(fN p=0/\∃(sb fb:Nat) (g:FM) (c:FC) (au fix:Nat->Prop),e=.returned (.tuple #[.pointer (some ⟨sb,0,none⟩),.int .i64 0])/\sA w' sb fb g X bZ.new c au fix/\KD p X g/\c.wn=o3/\∀i,FO fb c au i\/i=sb->w.heap.size<=i))
def Ky(B P:Nat)(q:Nv)(x:Int)(y:Option Nat)(o1 o2 o3:Int)(w':World):Prop:=(w'.cell? ⟨B,0,none⟩=some (.int .i64 o1)/\w'.cell? ⟨B,1,none⟩=some (.int .i64 o2)/\w'.cell? ⟨B,2,none⟩=some (.int .i64 o3))/\
 w'.cell? ⟨P,0,none⟩=some (.int .i64 q.k)/\w'.cell? ⟨P,1,none⟩=some (.slice q.pa q.pn q.pc)/\w'.cell? ⟨P,2,none⟩=some (.slice q.sa q.sn q.sc)/\w'.cell? ⟨P,3,none⟩=some (.int .i64 q.ed)/\w'.cell? ⟨P,4,none⟩=some (.int .i64 q.gr)/\w'.cell? ⟨P,5,none⟩=some (.int .i64 q.lo)/\w'.cell? ⟨P,6,none⟩=some (.int .i64 q.hi)/\w'.cell? ⟨P,7,none⟩=some (.bool q.lz)/\w'.cell? ⟨P,8,none⟩=some (.int .i64 x)/\w'.cell? ⟨P,9,none⟩=some (.map y)
theorem Ky.of{W:World}{B P:Nat}{q:Nv}{x:Int}{y:Option Nat}{t t':TypeId}(h:aq W B #[.int .i64 o1,.int .i64 o2,.int .i64 o3] t)(h':aq W P (fU q x y) t'):Ky B P q x y o1 o2 o3 W:=⟨⟨h.cell 0,h.cell 1,h.cell 2⟩,h'.NA⟩
theorem alw(p X:ByteArray)(w:World)(hp:p.size<=maxLen)(hX:X.size<=10000000)(hT:ik w)(o1 o2 o3:Int)(ho:th o1 o2 o3=true):
 Calls prog 14 #[.string p,.agg #[.int .i64 o1,.int .i64 o2,.int .i64 o3]] w (afG w p X o3):=by
 have HT:=ab hT;have B0:=aq.new w #[.int .i64 o1,.int .i64 o2,.int .i64 o3] 30;have HB:=ab B0;have K0:Hid (aa af w (w.alloc (.cells #[.int .i64 o1,.int .i64 o2,.int .i64 o3] 30))):=(aa.refl af w).alloc _;have jj:(w.alloc (.cells #[.int .i64 o1,.int .i64 o2,.int .i64 o3] 30)).heap.size=w.heap.size+1:=by simp
 have HO:=ab ho;clear hT B0 ho;by_cases hl:300<p.size
 ·have e1:fN p=1:=if_pos hl;have F:=ab (WH p (w.alloc (.cells #[.int .i64 o1,.int .i64 o2,.int .i64 o3] 30)) hl hp);have HE:=ab e1;clear e1;go_in;go_wp2_with fail;refine(F.out).mono ?_;rintro e w1 ⟨rfl,k1⟩;have K1:=ab (K0.out.trans k1);clear k1 F;simp only[nL,fU];go_wp2_with fail;go_ret2;refine⟨?_,Or.inl ⟨by rw[HE.out];decide,by rw[HE.out];rfl⟩⟩;exact K1.out.alloc _
 ·have qz:p.size<=300:=by omega
  have F:=ab (WI p (w.alloc (.cells #[.int .i64 o1,.int .i64 o2,.int .i64 o3] 30)) qz);go_in;go_wp2_with fail;generalize(w.alloc (.cells #[.int .i64 o1,.int .i64 o2,.int .i64 o3] 30))=w0 at*;refine(F.out).mono ?_;rintro e w1 ⟨g,q,x,y,st,jv,mh,rfl,k1,bt,df⟩;obtain⟨a1,a2,a3⟩:=XB jv mh;rw[a1]at bt df;rw[a2,a3]at df;have w_:(pick (jR g p)).1=fN p:=by unfold fN;rw[if_neg hl,a3]
  have Mm:(pick (jR (ph p) p)).1=fN p:=by unfold fN;rw[if_neg hl]
  rw[w_];rw[Mm]at df;clear w_ Mm a1 a2 a3 jv mh;generalize(pick (jR g p)).2=pl;have K1:=ab (K0.out.trans k1);have iA:=ab (HB.out.kept k1 (fun hx=>hx));have s1:=k1.size;clear k1 F HB;by_cases he:fN p=0
  ·obtain⟨hx,hy,vH,xd,xj⟩:=df he;obtain⟨c1,c2,c3,c4⟩:=adY qz he;have hG:x=(gG p:Int):=by rw[hx,bt];rfl
   have Ue:gG p<=100000:=by
    have h1:=vH.aQ;have h2:=(vH.next);have h3:=vH.len;have h4:st.aQ=gG p:=by rw[bt];rfl
    simp only at h1 h2;omega
   have EP:(lA p).sz<=1000:=by have:=xd.size_eq;rw[show lA p=oS (ph p) (dz p)from rfl,this];exact c2
   subst hG;have HE:=ab he;have Oh:Hid (cy w1 w0.heap.size w1.heap.size q (ee (ph p) (dz p)).2 (lA p)):=xd;rw[he];clear hx hy vH xd xj df bt he c2;simp only[nL,fU];have L1:=ab (And.intro (iA.out.alloc (.cells #[.int .i64 q.k,.slice q.pa q.pn q.pc,.slice q.sa q.sn q.sc,.int .i64 q.ed,.int .i64 q.gr,.int .i64 q.lo,.int .i64 q.hi,.bool q.lz,.int .i64 (gG p:Int),.map y] 67)) (aq.new w1 #[.int .i64 q.k,.slice q.pa q.pn q.pc,.slice q.sa q.sn q.sc,.int .i64 q.ed,.int .i64 q.gr,.int .i64 q.lo,.int .i64 q.hi,.bool q.lz,.int .i64 (gG p:Int),.map y] 67));have oy:Hid (aa af w1 (w1.alloc (.cells #[.int .i64 q.k,.slice q.pa q.pn q.pc,.slice q.sa q.sn q.sc,.int .i64 q.ed,.int .i64 q.gr,.int .i64 q.lo,.int .i64 q.hi,.bool q.lz,.int .i64 (gG p:Int),.map y] 67))):=(aa.refl af w1).alloc _;have d0:w1.cell? ⟨w.heap.size,0,none⟩=some (.int .i64 o1):=iA.out.cell 0;have d1:w1.cell? ⟨w.heap.size,1,none⟩=some (.int .i64 o2):=iA.out.cell 1;have d2:w1.cell? ⟨w.heap.size,2,none⟩=some (.int .i64 o3):=iA.out.cell 2;have ai2:w.heap.size<w1.heap.size:=(by omega);go_wp2_with fail;refine(akF _ o1 o2 o3).mono ?_;rintro e w2 ⟨rfl,k2⟩;rw[HO.out];have Hu:=ab (And.intro (L1.out.1.kept k2 (fun hx=>hx)) (L1.out.2.kept k2 (fun hx=>hx)));have K2:=ab (oy.out.trans k2);have s2:=K2.out.size;have fD:Hid (∀W,aa af w2 W->Ky w.heap.size w1.heap.size q (gG p:Int) y o1 o2 o3 W):=(fun W k=>Ky.of (Hu.out.1.kept k (fun hx=>hx)) (Hu.out.2.kept k (fun hx=>hx)));have afB:=ab (Oh.out.kept K2.out (fun _ _ _ hx=>hx) (Ab _));clear L1 oy k2 d0 d1 d2 Oh;go_wp2_with fail;refine gW (S:=Ky w.heap.size w1.heap.size q (gG p:Int) y o1 o2 o3) 6 (by kernel_rfl) rfl rfl rfl (by kernel_rfl) (by kernel_rfl) ?_;have aj:=fD.out w2.drew (aa.refl _ _).drew;refine ai 0 24 (.agg #[.int .i64 q.k,.slice q.pa q.pn q.pc,.slice q.sa q.sn q.sc,.int .i64 q.ed,.int .i64 q.gr,.int .i64 q.lo,.int .i64 q.hi,.bool q.lz,.int .i64 (gG p:Int),.map y]) aj ?_;refine ai 2 26 (.agg #[.int .i64 o1,.int .i64 o2,.int .i64 o3]) aj ?_;simp only[Act.put,Aa,Ad,Ac];refine bN 1 fun K hK=>?_
   have F:=Zf (afB.out.kept ((aa.refl af w2).drew) (fun _ _ _ hx=>hx) (by omega)) (by show w1.heap.size<=w2.heap.size;omega) c1 EP (gG p:Int) y;simp only[nL,fU]at F;have F:=ab F;go_simp;refine(F.out).mono ?_;rintro e w5 ⟨v5,V,j,rfl,k5,fL,FQ,cT⟩;dsimp only;have K5:=ab (((aa.refl af w2).drew).trans k5);have Y8:=ab ((K1.out.trans K2.out).trans K5.out);refine hK.out _ _ (fD.out _ K5.out) (fun _=>?_);clear hK K F;have s5:=K5.out.size;obtain⟨u0,AW,ku⟩:=fL.start;have Mh:=fL.Wl.1;have fM:(sorted (e_ (lA p)).1 V).length=V.aK.length:=(by simp[sorted]);obtain⟨mb,cc,vs,gR,IZ⟩:=FQ.ma (by intro e;have:=congrArg List.length e;rw[fM]at this;have h0:V.aK.length=0:=this;omega) (by omega) (HT.out.iU Y8.out);obtain⟨G,vn⟩:∃G:FM,G=⟨w0.heap.size,w1.heap.size,mb,cc,vs,sorted (e_ (lA p)).1 V,u0,gG p⟩:=⟨_,rfl⟩
   have Um:KD p X G:=by
    rw[vn];refine⟨⟨fL.ft (KV c3 c4),aeK (KV c3 c4),by show(sorted (e_ (lA p)).1 V).length<=4001;rw[fM];omega,by show u0<(sorted (e_ (lA p)).1 V).length;rw[fM];exact ku,Ue⟩,rfl,fun i hi=>?_,V,j,fL,rfl,AW⟩;exact aei (fL.ft (KV c3 c4)) X (fL.iy c1 EP c3 (ig X) AW hi (gH (gG p))) hi
   have U9:jb w5 G.lo G.hi G.mb G.cc G.vs G.ms:=by rw[vn];exact IZ
   have Qd:∃base,oN w5 G.lo G.hi base (.slice (some ⟨G.mb,0,none⟩) G.ms.length G.cc) G.ms:=by rw[vn];rw[gR]at FQ;exact⟨_,FQ⟩
   obtain⟨aqr,Qd⟩:=Qd;have FY:2<=o2/\o2<=1000000000:=by have:=HO.out;simp[th]at this;omega
   have F2:=ab (ahR (X:=X) (o1:=o1) (o3:=o3) Um.ok U9 Qd hX FY);have hv6:v5=.slice (some ⟨G.mb,0,none⟩) G.ms.length G.cc:=by rw[vn];exact gR
   have xk:V.num.getD j 0=(G.u0:Int):=by rw[vn];exact AW
   have hv8:(gG p:Int)=(G.G:Int):=(by rw[vn]);rw[hv6,xk];have afC:=ab Um;have HMW:Hid (∀i,G.cI i->i<w5.heap.size):=(fun i hi=>FM.uu U9 hi);have HG8:=ab hv8;clear fL FQ IZ U9 Qd fM Mh cT k5 gR hv6 xk hv8 AW ku Um vn FY;refine bN 3 fun K hK=>?_
   go_simp;rw[show(gG p:Int)=(G.G:Int)from HG8.out];refine(F2.out).mono ?_;rintro e w6 ⟨fb,c,au,fix,rfl,hA,hO,hf,Qs,k6⟩;dsimp only;have K6:=ab (K5.out.trans k6);refine hK.out _ _ (fD.out _ K6.out) (fun _=>?_);clear hK K F2;have apt:fb<w6.heap.size:=by obtain⟨A,hM,_⟩:=hA.mem;exact hM.ak.lt
   have CP:Hid (∀i,FO fb c au i\/fix i\/G.cI i->i<w6.heap.size):=fun i hi=>by obtain⟨A,hM,_⟩:=hA.mem;exact hM.lt hi
   have HOW:Hid (∀i,FO fb c au i->w.heap.size<=i):=(fun i hi=>Be Y8.out.size (hO i hi));have HA:=ab (And.intro hA Qs);clear hA Qs hO hf;refine bN 4 fun K hK=>?_
   go_simp;refine hK.out _ _ (fD.out _ K6.out) (fun _=>?_);clear hK K;refine bN 5 fun K hK=>?_
   go_simp;refine hK.out _ _ (fD.out _ (K6.out.alloc _)) (fun _=>?_);clear hK K;refine At (by kernel_rfl) ?_ _;unfold eJ;simp only[Al,Ag,Ai];go_simp;go_wp2_with fail;go_ret2;have KW:=((K1.out.trans K2.out).trans K6.out);refine⟨KW.alloc _,Or.inr ⟨HE.out,w6.heap.size,fb,G,c,au,fix,rfl,⟨?_,?_,?_⟩,afC.out,HA.out.2,fun i hi=>hi.elim (HOW.out i) (fun e=>by rw[e];exact KW.size)⟩⟩
   ·exact aq.new w6 _ _
   ·exact HA.out.1.new ((aa.refl af w6).alloc _)
   ·exact⟨fun h=>by have:=CP.out _ (Or.inl h);omega,fun h=>by have:=CP.out _ (Or.inr (Or.inl h));omega,fun h=>by have:=CP.out _ (Or.inr (Or.inr h));omega⟩
  ·obtain⟨pe,qW⟩:∃pe,Hid (fN p=pe):=⟨_,(rfl:_=_)⟩
   rw[qW.out]at he⊢;have az:(pe !=0)=true:=(by simpa using he);have HE:=ab he;simp only[nL,fU];clear df he;go_wp2_with fail;go_ret2;exact⟨K1.out.alloc _,Or.inl ⟨by rw[qW.out];exact HE.out,by rw[qW.out];rfl⟩⟩
theorem agF(a b c:Value)(w:World):CallsD prog 48 #[a,b,c] .returning w fun e u' w'=>e=.returned (.tuple #[])/\u'=.returning/\w'=w:=by
 refine callsD_of_wpS func48 rfl fun c₀ cs hu=>?_
 apply wpS_seq
 apply wpS_region
 simp[wpOpsS,go_sem,recoverD,hu,ntmps48,Exit.thenS]
 refine wpS_cond (t:=false) (by simp[Act.eval,Array.replicate]) ?_;simp only[Aq,if_false];refine wpS_of_wp (wp_skip ?_)
 cases c₀;simp_all[bodyPostS,results,results48]
theorem ahr(W:World)(d b:Nat):(Op.equalIn (d+1) 38 (.pointer (some ⟨b,0,none⟩)) (.pointer (some ⟨b,0,none⟩))).run prog W=.ok true W:=by
 have h:prog.underlying 38=some (.pointer 79):=underlying38;simp[Op.equalIn,Ga h,sameAddr]
theorem ahs(W:World)(b:Nat):(Op.equal 38 (.pointer (some ⟨b,0,none⟩)) (.pointer (some ⟨b,0,none⟩))).run prog W=.ok true W:=ahr W 9999 b
theorem ak6(W:World)(b:Nat):(binOp .neq 38 (.pointer (some ⟨b,0,none⟩)) (.pointer (some ⟨b,0,none⟩))).run prog W=.ok (.bool false) W:=by
 simp only[binOp];simp[ahs W b]
def Kz(w W:World)(i:Nat):Prop:=i<w.heap.size\/W.heap.size<=i
theorem abi{N:Nat}{cv:Value}{P:Value->Int->World->Prop}(hB:aq w sb #[.pointer (some ⟨sb,0,none⟩),.pointer (some ⟨fb,0,none⟩)] 79)(LN:∀a W,(callFunc N a).run prog W=.ok (.enter N a) W)
 (aby:∀W,aa af w W->w.heap.size+3<=W.heap.size->Calls prog N #[.pointer (some ⟨fb,0,none⟩),cv] W fun e w'=>∃(ao:Option Addr) (n c:Nat) (er:Int),e=.returned (.tuple #[.slice ao n c,.int .i64 er])/\P (.slice ao n c) er w'/\aa (Kz w W) W w'):
 Calls prog 26 #[.pointer (some ⟨sb,0,none⟩),.func (.func N) #[] #[cv]] w fun e w'=>∃(v:Value) (er:Int) (w1:World),e=.returned (.tuple #[v,.int .i64 er])/\P v er w1/\w.heap.size+3<=w1.heap.size/\aa (fun i=>i=w.heap.size+1\/i=w.heap.size+2) w1 w':=by
 have hmf:∀(fn:Fn) (first cap:Array Value) (w:World),(Instr.makeFunc fn first cap).run prog w=.ok (.func fn first cap) w:=fun _ _ _ _=>rfl
 have Vc:∀W,(binOp .neq 38 (.pointer (some ⟨sb,0,none⟩)) (.pointer (some ⟨sb,0,none⟩))).run prog W=.ok (.bool false) W:=fun W=>ak6 W sb
 have aw:=hB.lt;have K0:aa af w (((w.alloc (.cells #[.pointer (some ⟨sb,0,none⟩)] 38)).alloc (.cells #[.slice none 0 0] 24)).alloc (.cells #[.int .i64 0] 25)):=(((aa.refl af w).alloc _).alloc _).alloc _;have L0:aq (((w.alloc (.cells #[.pointer (some ⟨sb,0,none⟩)] 38)).alloc (.cells #[.slice none 0 0] 24)).alloc (.cells #[.int .i64 0] 25)) w.heap.size #[.pointer (some ⟨sb,0,none⟩)] 38:=((aq.new w #[.pointer (some ⟨sb,0,none⟩)] 38).alloc _).alloc _
 have L1:aq (((w.alloc (.cells #[.pointer (some ⟨sb,0,none⟩)] 38)).alloc (.cells #[.slice none 0 0] 24)).alloc (.cells #[.int .i64 0] 25)) (w.heap.size+1) #[.slice none 0 0] 24:=by
  have:=(aq.new (w.alloc (.cells #[.pointer (some ⟨sb,0,none⟩)] 38)) #[.slice none 0 0] 24).alloc (.cells #[.int .i64 0] 25);simpa using this
 have L2:aq (((w.alloc (.cells #[.pointer (some ⟨sb,0,none⟩)] 38)).alloc (.cells #[.slice none 0 0] 24)).alloc (.cells #[.int .i64 0] 25)) (w.heap.size+1+1) #[.int .i64 0] 25:=by
  have:=aq.new ((w.alloc (.cells #[.pointer (some ⟨sb,0,none⟩)] 38)).alloc (.cells #[.slice none 0 0] 24)) #[.int .i64 0] 25;simpa using this
 have aS:(((w.alloc (.cells #[.pointer (some ⟨sb,0,none⟩)] 38)).alloc (.cells #[.slice none 0 0] 24)).alloc (.cells #[.int .i64 0] 25)).heap.size=w.heap.size+3:=by simp
 have HB:=ab (hB.kept K0 (fun hx=>hx));have HC:=ab aby
 clear hB aby
 go_enter_defers func26,ntmps26
 go_wp2_with fail
 generalize(((w.alloc (.cells #[.pointer (some ⟨sb,0,none⟩)] 38)).alloc (.cells #[.slice none 0 0] 24)).alloc (.cells #[.int .i64 0] 25))=W at*
 have d0:W.cell? ⟨w.heap.size,0,none⟩=some (.pointer (some ⟨sb,0,none⟩)):=L0.cell 0;have e0:W.cell? ⟨sb,0,none⟩=some (.pointer (some ⟨sb,0,none⟩)):=HB.out.cell 0;have e1:W.cell? ⟨sb,1,none⟩=some (.pointer (some ⟨fb,0,none⟩)):=HB.out.cell 1;have KK:=ab K0;have HL:=ab (And.intro L1 L2);clear K0 L0 L1 L2;go_big_quiet (fail);have K1:=ab (KK.out.drewN nq);have SF:Hid (aq (W.drewN nq) (w.heap.size+1) #[.slice none 0 0] 24/\aq (W.drewN nq) (w.heap.size+1+1) #[.int .i64 0] 25):=HL.out;have d0':(W.drewN nq).cell? ⟨w.heap.size,0,none⟩=some (.pointer (some ⟨sb,0,none⟩)):=d0;have tL:(W.drewN nq).cell? ⟨sb,1,none⟩=some (.pointer (some ⟨fb,0,none⟩)):=e1;have aqe:(W.drewN nq).heap.size=w.heap.size+3:=aS;generalize W.drewN nq=W1 at*;clear d0 e0 e1 KK HL aS;go_wp2_with fail;refine(HC.out W1 K1.out (by omega)).mono ?_;rintro e w2 ⟨ao,n,c,er,rfl,hP,k2⟩;have b1:=SF.out.1.kept k2 (show¬Kz w W1 (w.heap.size+1) by unfold Kz;omega);have b2:=SF.out.2.kept k2 (show¬Kz w W1 (w.heap.size+1+1) by unfold Kz;omega);have g1:w2.cell? ⟨w.heap.size+1,0,none⟩=some (.slice none 0 0):=b1.cell 0;have g2:w2.cell? ⟨w.heap.size+1+1,0,none⟩=some (.int .i64 0):=b2.cell 0;have f1:w2.frozen? ⟨w.heap.size+1,0,none⟩=false:=b1.frozen 0;have f2:w2.frozen? ⟨w.heap.size+1+1,0,none⟩=false:=b2.frozen 0;have HP:=ab hP;have gi:=k2.size;have xP:=ab (And.intro b1 b2);clear hP k2 b1 b2 HC SF;have b9:=(xP.out.1.setCell 0 (.slice ao n c)).Ns (p:=⟨w.heap.size+1+1,0,none⟩) (show w.heap.size+1≠w.heap.size+1+1 by omega) (.int .i64 er);have c9:=(xP.out.2.Ns (p:=⟨w.heap.size+1,0,none⟩) (show w.heap.size+1+1≠w.heap.size+1 by omega) (.slice ao n c)).setCell 0 (.int .i64 er);have r1:((w2.setCell ⟨w.heap.size+1,0,none⟩ (.slice ao n c)).setCell ⟨w.heap.size+1+1,0,none⟩ (.int .i64 er)).cell? ⟨w.heap.size+1,0,none⟩=some (.slice ao n c):=b9.cell 0;have r2:((w2.setCell ⟨w.heap.size+1,0,none⟩ (.slice ao n c)).setCell ⟨w.heap.size+1+1,0,none⟩ (.int .i64 er)).cell? ⟨w.heap.size+1+1,0,none⟩=some (.int .i64 er):=c9.cell 0;have k9:Hid (aa (fun i=>i=w.heap.size+1\/i=w.heap.size+2) w2 ((w2.setCell ⟨w.heap.size+1,0,none⟩ (.slice ao n c)).setCell ⟨w.heap.size+1+1,0,none⟩ (.int .i64 er))):=((aa.refl (fun i=>i=w.heap.size+1\/i=w.heap.size+2) w2).setCell (p:=⟨w.heap.size+1,0,none⟩) (Or.inl (Or.inl rfl)) _).setCell (p:=⟨w.heap.size+1+1,0,none⟩) (Or.inl (Or.inr rfl)) _;clear b9 c9;go_wp2_with fail;generalize((w2.setCell ⟨w.heap.size+1,0,none⟩ (.slice ao n c)).setCell ⟨w.heap.size+1+1,0,none⟩ (.int .i64 er))=w9 at*;refine leaves_cons (f:=48) (args:=#[.pointer (some ⟨w.heap.size,0,none⟩),.pointer (some ⟨w.heap.size+1,0,none⟩),.pointer (some ⟨w.heap.size+1+1,0,none⟩)]) (by simp) (by simp[go_sem]) ?_;refine(agF _ _ _ _).mono ?_;rintro e u' pX ⟨rfl,rfl,rfl⟩;simp[Leaves,settle,results,results26,go_sem,r1,r2];exact⟨_,_,⟨rfl,rfl⟩,w2,HP.out,by omega,k9.out⟩
end Go.Proofs.YtpdnofhackjfdaaGreatDoor
