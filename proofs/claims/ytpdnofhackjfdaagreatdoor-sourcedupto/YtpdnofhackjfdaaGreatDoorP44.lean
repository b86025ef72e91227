/- Package trawl's  -/
import Derived.Test.YtpdnofhackjfdaaGreatDoorP43
set_option linter.all false
set_option maxRecDepth 100000
set_option maxHeartbeats 8000000
namespace Go.Proofs.YtpdnofhackjfdaaGreatDoor
open Go.Proofs.Tryz
open Go.RowKit Go.Maps
variable {X:ByteArray} {c:FC} {g:FM} {s:cx} {J:cx->Prop} {cd most o1 o2 o3 rd:Int} {aG:List (Ev×Value)} {base fb k n sb tb:Nat} {O O' O2 fix ay:Nat->Prop} {ao:Option Addr} {v v' v2:Value} {W w w' w1 w2:World}
theorem UZ:prog.elem 24=46:=by simp[Program.elem,underlying24]
theorem abz(X:ByteArray):∀(l:List (Ev×Value)) (k:Nat),iD X (l.take k)=(iD X l).take (k*4)
 | [],k=>by simp[iD]
 |p::l,0=>by simp[iD]
 |p::l,k+1=>by
  rw[C5];show pw X p.1 p.2++iD X (l.take k)=(pw X p.1 p.2++iD X l).take ((k+1)*4)
  rw[abz X l k,show(k+1)*4=(pw X p.1 p.2).length+k*4 by show _=4+k*4;omega,List.take_length_add_append]
theorem ae0{c:Nat}{xs:List Value}(h:w.ownsRow base 46 4 (.slice ao n c) n xs)(hk:k<=n):k<=c/\(∀W,(Instr.slice 24 (.slice ao n c) none (some (GW (k:Int))) none).run prog W=.ok (.slice ao k c) W)/\w.ownsRow base 46 4 (.slice ao k c) k (xs.take (k*4)):=by
 have ht:prog.underlying 24=some (.slice (prog.elem 24)):=by rw[UZ];exact underlying24
 have hl:(xs.take (k*4)).length=k*4:=by rw[Cv,h.1];omega
 rcases h.2 with⟨h1,h2⟩|⟨g,cap,aO,h1,a1,a2,a3,a4,a5,a6⟩
 ·simp only[A9]at h1;obtain⟨rfl,rfl,rfl⟩:=h1;have hz:k=0:=by omega
  subst hz;refine⟨Ab _,fun W=>?_,⟨hl,Or.inl ⟨rfl,rfl⟩⟩⟩;rw[run_slice_h W _ _ _ _ ht .i64 _ (by omega) (by simp),UZ,sizeOf46];simp[Result.andThen,sliced]
 ·simp only[A9,true_and]at h1;obtain⟨rfl,rfl⟩:=h1;refine⟨by omega,fun W=>?_,⟨hl,Or.inr ⟨g,c,aO,rfl,a1,a2,by omega,a4,a5,by rw[<-a6,Gh,En (by omega)]⟩⟩⟩;rw[run_slice_h W _ _ _ _ ht .i64 _ (by omega) (by omega),UZ,sizeOf46];by_cases hc:c=0
  ·subst hc;simp[Result.andThen,sliced]
  ·simp[Result.andThen,sliced,hc,Addr.add]
theorem dY.take{c:Nat}{l:List (Ev×Value)}(h:dY w O (.slice ao l.length c) X l)(hk:k<=l.length):k<=c/\dY w O (.slice ao k c) X (l.take k):=by
 obtain⟨h0,h1,h2⟩:=ae0 h.row hk;exact⟨h0,⟨by rw[Cv,En hk,abz];exact h2,fun i hi=>h.DU i (by cases ao<;>exact hi),fun p hp=>h.fA p (Cs hp),h.lt⟩⟩
def zW(most:Int)(n m:Nat):Nat:=if most<0 then m else min m (most-n).toNat
theorem YS(most:Int)(n m:Nat):zW most n m<=m:=by unfold zW;split<;>omega
structure n_(w:World)(tb:Nat)(rd cd most:Int)(X:ByteArray)(O O2:Nat->Prop)(aG:List (Ev×Value))(v':Value)(O':Nat->Prop)(w':World):Prop where
 aq:au w' tb #[v',GW rd,GW cd,GW most] 89
 c_:dY w' O' v' X aG
 new:∀i,O' i->O i\/O2 i\/w.heap.size<=i
 kept:aa (fun i=>i=tb\/O i) w w'
def AdQ(w:World)(tb:Nat)(rd cd most:Int)(X:ByteArray)(O O2:Nat->Prop)(aG dh:List (Ev×Value))(e:Ending)(w':World):Prop:=∃v' O' k,k=zW most aG.length dh.length/\n_ w tb rd cd most X O O2 (aG++dh.take k) v' O' w'/\e=.returned (GW (if((aG.length+k:Nat):Int)=most then 11 else 0))
def TeS(tb:Nat)(v:Value)(most:Int)(W:World):Prop:=W.cell? (GB tb 0)=some v/\W.cell? (GB tb 3)=some (GW most)
theorem n_.drewN(h:n_ w tb rd cd most X O O2 aG v' O' w')(n:Nat):n_ w tb rd cd most X O O2 aG v' O' (w'.drewN n):=⟨h.aq,h.c_.new ((aa.refl ai w').drewN n),h.new,h.kept.drewN n⟩
theorem n_.drew(h:n_ w tb rd cd most X O O2 aG v' O' w'):n_ w tb rd cd most X O O2 aG v' O' w'.drew:=⟨h.aq,h.c_.new (aa.refl ai w').drew,h.new,h.kept.drew⟩
theorem n_.of{m:List (Ev×Value)}(hb:au w tb #[v,GW rd,GW cd,GW most] 89)(h:dY w O v X aG)(h2:dY w O2 v2 X m)(hO:¬O tb)(B_:¬O2 tb)(k0:aa ai w W)
 (bC:w'.ownsRow 0 46 4 v' (aG.length+m.length) (iD X aG++iD X m))(hg:W.grownBy w' v.ownBlock)(jC:v'.ownBlock=v.ownBlock\/v'.ownBlock=some W.heap.size):∃O',au w' tb #[v,GW rd,GW cd,GW most] 89/\n_ w tb rd cd most X O O2 (aG++m) v' O' (w'.setCell (GB tb 0) v'):=by
 obtain⟨E,K⟩:=h.append h2 k0 bC hg jC;have B:=hb.kept K (fun hx=>hO (h.DU tb hx));have hs:=k0.size;have hl:=hb.lt;refine⟨_,B,B.setCell 0 _,E.kept ((aa.refl (fun i=>i=tb) w').setCell (p:=(GB tb 0)) (Or.inl rfl) _) (fun i hi hx=>?_),fun i hi=>?_,(K.mono (S':=fun i=>i=tb\/O i) (fun i hi=>Or.inr (h.DU i hi))).setCell (p:=(GB tb 0)) (Or.inl (Or.inl rfl)) _⟩
 ·have xS:i=tb:=hx;subst xS;rcases hi with hi|hi|⟨hi,_⟩
  ·exact hO hi
  ·exact B_ hi
  ·omega
 ·rcases hi with hi|hi|⟨hi,_⟩
  ·exact Or.inl hi
  ·exact Or.inr (Or.inl hi)
  ·exact Or.inr (Or.inr (by omega))
theorem n_.qu(hb:au w tb #[v,GW rd,GW cd,GW most] 89)(h:dY w O v X aG)(hO:¬O tb)(k0:aa ai w W):n_ w tb rd cd most X O O2 aG v O (W.setCell (GB tb 0) v):=
 ⟨(hb.kept k0 (fun hx=>hx)).setCell 0 _,(h.new k0).kept ((aa.refl (fun i=>i=tb) W).setCell (p:=(GB tb 0)) (Or.inl rfl) _) (fun i hi hx=>by have xS:i=tb:=hx;subst xS;exact hO hi),fun i hi=>Or.inl hi,(k0.mono (S':=fun i=>i=tb\/O i) (fun i hi=>hi.elim)).setCell (p:=(GB tb 0)) (Or.inl (Or.inl rfl)) _⟩
theorem afI{dh:List (Ev×Value)}(hb:au w tb #[v,GW rd,GW cd,GW most] 89)(h:dY w O v X aG)(h2:dY w O2 v2 X dh)(hO:¬O tb)(B_:¬O2 tb)
 (hm:most<0\/(aG.length:Int)<most)(hr: -9223372036854775808<=most/\most<=9223372036854775807)(hn:aG.length+dh.length<=100000000):
 Calls prog 54 #[BT tb 0,v2,GW 0] w (AdQ w tb rd cd most X O O2 aG dh):=by
 have mE:=YS most aG.length dh.length;obtain⟨ie,qg,NM,lJ,JD⟩:=Bo Tryz.Xh;obtain⟨k,hk⟩:∃k,k=zW most aG.length dh.length:=⟨_,rfl⟩
 rw[<-hk]at mE;have Wu:(dh.take k).length=k:=by rw[Cv];omega
 obtain⟨ao,cv,rfl⟩:=cw h.row;obtain⟨a2,c2,rfl⟩:=cw h2.row;obtain⟨Wr,h3⟩:=h2.take mE;have c0:w.cell? (GB tb 0)=some (.slice ao aG.length cv):=hb.cell 0;have c3:w.cell? (GB tb 3)=some (GW most):=hb.cell 3;have HB:=ab hb;have HE:=ab h;have yx:=ab h3;have pW:=ab hk;clear hb h h2 h3;rcases(show most<0\/0<=most by omega)with aj2|wo
 case' inl=>
  have gW:¬(0<=most):=by omega
  have JN:k=dh.length:=by rw[hk];unfold zW;rw[if_pos aj2]
  clear hk;rw[<-JN];clear JN;have f0:w.frozen? (GB tb 0)=false:=HB.o.frozen 0;go_in
 case' inr=>
  have JN:((min dh.length (most-aG.length).toNat:Nat):Int)=(k:Int):=by rw[hk];unfold zW;rw[if_neg (by omega)]
  have Rv:min (dh.length:Int) (most-(aG.length:Int))=(k:Int):=by omega
  clear hk JN;go_in;go_wp2_with fail;refine gD (S:=TeS tb (.slice ao aG.length cv) most) 16 (by kernel_rfl) rfl rfl rfl (by kernel_rfl) (by kernel_rfl) ?_;have ak:TeS tb (.slice ao aG.length cv) most w.drew:=⟨c0,c3⟩;refine aj 0 15 (.slice a2 dh.length c2) ak ?_;refine aj 1 16 (.slice a2 dh.length c2) ak ?_;refine aj 2 17 (GW (dh.length:Int)) ak ?_;refine aj 3 18 (BT tb 0) ak ?_;refine aj 4 19 (BT tb 0) ak ?_;refine aj 5 20 (BT tb 3) ak ?_;refine aj 6 21 (GW most) ak ?_;refine aj 7 22 (BT tb 0) ak ?_;refine aj 8 23 (BT tb 0) ak ?_;refine aj 9 24 (BT tb 0) ak ?_;refine aj 10 25 (BT tb 0) ak ?_;refine aj 11 26 (.slice ao aG.length cv) ak ?_;refine aj 12 27 (GW (aG.length:Int)) ak ?_;refine mP 13 28 (GW (most-(aG.length:Int))) rfl rfl (by kernel_rfl) (by kernel_rfl) (by kernel_rfl) (fun _ _ _ h=>h) (Or.inl ⟨by rfl,fun W _=>by go_simp<;>(rw[Cr];omega)⟩) ak ?_;refine mP 14 29 (GW (k:Int)) rfl rfl (by kernel_rfl) (by kernel_rfl) (by kernel_rfl) (fun _ _ _ h=>h) (Or.inl ⟨by rfl,fun W _=>by go_simp⟩) ak ?_;refine aj 15 30 (.slice a2 k c2) ak ?_;refine At (by kernel_rfl) ?_ _;simp only[Act.put,Aa,Ad,Ac];unfold eo;simp only[Ak,Ag,Ah];go_simp;have c0:w.drew.cell? (GB tb 0)=some (.slice ao aG.length cv):=HB.o.cell 0;have c3:w.drew.cell? (GB tb 3)=some (GW most):=HB.o.cell 3;have f0:w.drew.frozen? (GB tb 0)=false:=HB.o.frozen 0;clear ak
 all_goals
  rcases yx.o.cell with⟨hv,Ng⟩|⟨eg,ec,hv,hec,mC⟩
  ·simp only[A9]at hv;obtain⟨rfl,rfl,rfl⟩:=hv;have ik:Hid (w.ownsRow 0 46 4 (.slice ao aG.length cv) aG.length (iD X aG)):=HE.o.row;have aA:=(ab fun(W:World) (k:aa ai w W)=>n_.qu (O2:=O2) HB.o HE.o hO k);have B1:=HB.o.setCell 0 (.slice ao aG.length cv);have r0:(w.setCell (GB tb 0) (.slice ao aG.length cv)).cell? (GB tb 0)=some (.slice ao aG.length cv):=B1.cell 0;have r3:(w.setCell (GB tb 0) (.slice ao aG.length cv)).cell? (GB tb 3)=some (GW most):=B1.cell 3;have s0:(w.drew.setCell (GB tb 0) (.slice ao aG.length cv)).cell? (GB tb 0)=some (.slice ao aG.length cv):=B1.cell 0;have s3:(w.drew.setCell (GB tb 0) (.slice ao aG.length cv)).cell? (GB tb 3)=some (GW most):=B1.cell 3;have aB:((aG.length:Int)==most)=false:=by simp;omega
   clear B1;go_wp2_with (at_builtin;refine Eh rfl _ _ 24 rfl 0 46 ie 4 underlying24 qg _ _ _ rfl ik.o rfl ?_);go_big_quiet (fail);go_wp2_with fail;go_ret;refine⟨.slice ao aG.length cv,O,0,pW.o,n_.drewN ?_ _,?_⟩
   ·rw[List.take_zero,D3];first|exact aA.o _ (aa.refl _ _)|exact(aA.o _ (aa.refl _ _)).drew
   ·rw[if_neg (by simpa using aB)];rfl
  ·simp only[A9,Wu,true_and]at hv;obtain⟨rfl,rfl⟩:=hv;have ik:Hid (w.ownsRow 0 46 4 (.slice ao aG.length cv) aG.length (iD X aG)):=HE.o.row;have HC:=ab (And.intro mC (And.intro yx.o.one (aby X (dh.take k))));clear mC;go_wp2_with (at_builtin;refine Ao _ rfl _ _ 24 rfl 0 46 ie _ 4 56 underlying24 qg NM lJ JD rfl (by decide) _ _ _ rfl ik.o (GB eg 0) k c2 (iD X (dh.take k)) rfl ?c0 ?c1 ?c2 ?c3 ?c4 ?c5 ?_)
   case c0=>have:=HC.o.2.2;rwa[Wu]at this
   case c1=>first|exact HC.o.1|(intro j u hu;have:=HC.o.1 j u hu;rwa[Jc,Ba]at this)
   case c2=>exact HC.o.2.1
   case c3=>unfold maxLen;omega
   case c4=>omega
   all_goals try(case c5=>exact Al _)
   intro v7 w7 j0 wh Hr yZ;obtain⟨O7,B7,A7⟩:=n_.of HB.o HE.o yx.o hO B_ (by first|exact aa.refl ai w|exact(aa.refl ai w).drew) (by rw[Wu];exact j0) wh yZ;obtain⟨yM,Qx,rfl⟩:=cw j0;have d0:w7.cell? (GB tb 0)=some (.slice ao aG.length cv):=B7.cell 0;have g0:w7.frozen? (GB tb 0)=false:=B7.frozen 0;have r0:(w7.setCell (GB tb 0) (.slice yM (aG.length+k) Qx)).cell? (GB tb 0)=some (.slice yM (aG.length+k) Qx):=A7.aq.cell 0;have r3:(w7.setCell (GB tb 0) (.slice yM (aG.length+k) Qx)).cell? (GB tb 3)=some (GW most):=A7.aq.cell 3;have HA:=ab A7;clear A7 B7 j0 wh Hr yZ HC ik;by_cases hq:((aG.length+k:Nat):Int)=most
   ·have pG:((aG.length:Int)+(k:Int)==most)=true:=by simp;omega
    first
    |exfalso;omega
    |have HQ:=ab hq
     clear hq;go_wp2_with fail;go_big_quiet (fail);go_wp2_with fail;go_ret;exact⟨_,O7,k,pW.o,HA.o.drewN _,by rw[if_pos HQ.o];rfl⟩
   ·have pG:((aG.length:Int)+(k:Int)==most)=false:=by simp;omega
    have HQ:=ab hq;clear hq;go_wp2_with fail;go_big_quiet (fail);go_wp2_with fail;go_ret;exact⟨_,O7,k,pW.o,HA.o.drewN _,by rw[if_neg HQ.o];rfl⟩
theorem xr.new{s':cx}{c':FC}{cG:Nat->Prop}(h:xr w fb g X s n c ay fix J v aG s' c' cG O w1)(k:aa ai w1 w2):xr w fb g X s n c ay fix J v aG s' c' cG O w2:=
 ⟨h.at_.new k,h.c_.new k,h.ap,⟨h.dt.kept.b_ k (fun i _ hx=>hx.elim),h.dt.aq⟩,h.rest,h.bu,h.fO,h.BL,h.full,h.wn,h.j⟩
theorem aix{pv:Value}(hg:g.Ok)(h:jJ w fb g X s c ay fix)(qf:s.l=[]->s.mt=none)(hn:s.bu+n<=X.size)(hp:jI w pv (X.extract s.bu (s.bu+n)))(hJ:Pd g X J)(hj:J (s.fp n))(hw:c.wn=0):
 Calls prog 28 #[BT fb 0,pv] w fun e w'=>∃v aG s' c' cG O,e=.returned (.tuple #[v,GW 0])/\xr w fb g X s n c ay fix J v aG s' c' cG O w':=by
 have F:=ab (apn hg h qf hn hp hJ hj);have p16:w.cell? (GB fb 16)=some (.bool false):=by obtain⟨A,hM,_⟩:=h.mem;exact(hM.aq.cell 16).trans (by show some (Value.bool c.ov)=_;rw[h.fc.ov])
 have HW:=ab hw;clear h qf hp hJ hj hw;go_in;go_wp2_with fail;refine(F.o).mono ?_;rintro e w1 ⟨v,aG,s',c',cG,O,rfl,hT⟩;have HT:=ab hT;have p15:w1.cell? (GB fb 15)=some (GW 0):=by obtain⟨A,hM,_⟩:=hT.at_.mem;exact(hM.aq.cell 15).trans (by show some (GW c'.wn)=_;rw[hT.wn,HW.o])
 clear F hT p16;go_wp2_with fail;go_quiet (fail);go_wp2_with fail;go_ret2;exact⟨v,aG,s',c',cG,O,rfl,HT.o.new ((aa.refl ai w1).drewN nq)⟩
structure DY(w:World)(fb:Nat)(g:FM)(X:ByteArray)(s:cx)(v:Value)(aG:List (Ev×Value))(w':World):Prop where
 c_:dY w' (IS w w') v X aG
 eq:aG.map (·.1)=s.rest g.ms g.u0 g.G X
 kept:aa (fun i=>i=fb) w w'
theorem aiJ{f:Nat}{lx:List (Ev×Nat)}{A:Int}(hg:g.Ok)(hc:Pa X s c)(hk:mT g.ms g.u0 X s)(CK:s.bu=X.size)(ze:f<=s.i)(uv:s.f<=f)(hbf:s.b<=f)(mF:∀k,s.b<=k->k<f->eV g.ms (aQ X) g.u0 g.G k=none)
 (hL:FD w fb g c (s.K X) A s.mt.isSome s.l ay fix (wG c (s.K X) (aR X f) (X.size:Int) false) v lx w1):∃aG,DY w fb g X s v aG w1:=by
 obtain⟨b1,b2,b3,b4,b5,b6⟩:=hk.xw;have G_:f<=(aJ X).length:=by omega
 have CL:=fZ X uv;have pB:=i_ X f;have We:=fZ X ze;have gx:bd X (aJ X).length=X.size:=nI (Ab _);have nb:c.aE=(bd X s.f:Int):=hc.aE;have qe:aR X f=(bd X f:Int):=rfl
 have uq:ki X (wG c (s.K X) (aR X f) (X.size:Int) false) f (aJ X).length:=by
  refine⟨?_,rfl,G_,Ab _,Qf hc uv G_ (by omega) b4,fun _ e a=>?_⟩
  ·show(s.K X).extract (aR X f-c.aE).toNat ((X.size:Int)-c.aE).toNat=_
   rw[show(aR X f-c.aE).toNat=bd X f-bd X s.f by omega,show((X.size:Int)-c.aE).toNat=X.size-bd X s.f by omega,gx];exact cx.range CL (by omega) (by omega) b4
  ·have:(aQ X).gZ (aJ X).length= -1:=by unfold CX.gZ;rw[if_neg (by show¬_<(aJ X).length;omega)];rfl
   rw[this];rfl
 generalize Xb:wG c (s.K X) (aR X f) (X.size:Int) false=x at uq hL
 have eG:x.op=false:=by rw[<-Xb];rfl
 have e1:=ahK hg.fJ uq eG hg.u0 g.G _ 0 s.told (Ab _);have hR:oQ g c x=e_ (eV g.ms x g.u0 g.G) x.n x.aZ false 0 s.told:=by unfold oQ;rw[eG,hc.tl]
 rw[<-hR]at e1
 have eD:∀p∈lx,p.1.a<=p.1.b/\p.1.b<=x.n/\p.1.gs.length=2*g.G:=fun p hp=>by
  have oG:p.1∈ (oQ g c x).1:=by rw[<-hL.eq];exact Be.2 ⟨p,hp,rfl⟩
  rw[hR]at oG;refine U1 (P:=fun e=>e.a<=e.b/\e.b<=x.n/\e.gs.length=2*g.G) (wV hg.fJ x hg.u0 g.G) (fun i q gq hi hq=>?_) _ _ _ p.1 oG;have:=DV hg.fJ x hg.u0 hi _ _ _ hq;exact⟨this.1,this.2.1,by rw[this.2.2];simp[gR]⟩
 refine⟨_,hL.c_.evL uq eD,?_,hL.kept⟩;unfold cx.rest;rw[U3 (a:=f) hbf (by omega) mF,Fl]
 have:(lx.map ((fun p:Ev×Value=>p.1) ∘fun p=>(wQ f p.1,Value.slice (some (GB p.2 0)) (2*g.G) (2*g.G))))=(oQ g c x).1.map (wQ f):=by
  rw[<-hL.eq,Fl];rfl
 rw[this];exact e1.symm
def Tx(fb:Nat)(ka:Option Addr)(kn kc:Nat)(bg:Int)(W:World):Prop:=W.cell? (GB fb 4)=some (.slice ka kn kc)/\W.cell? (GB fb 5)=some (GW bg)
theorem ahL(hg:g.Ok)(h:jJ w fb g X s c ay fix)(qf:s.l=[]->s.mt=none)(CK:s.bu=X.size):
 Calls prog 33 #[BT fb 0] w fun e w'=>∃v aG,e=.returned (.tuple #[v,GW 0])/\DY w fb g X s v aG w':=by
 obtain⟨A,hM,hA⟩:=h.mem;have hc:=h.fc;have hk:=h.ok;obtain⟨b1,b2,b3,b4,b5,b6⟩:=hk.xw;have aW:=hk.sz;obtain⟨f,f1,f2,f3,f4⟩:=hk.rR.BL hg.fJ hg.u0 g.G qf
 have uv:s.f<=f:=by
  have xK:=hk.low.mono;rw[show yU X s.i s.l=aR X f from f3]at xK;rcases Qn (by have:=hk.low.le;omega) xK with h|h
  ·exact h
  ·have:=hk.low.le;omega
 have CL:=fZ X uv;have pB:=i_ X f;have We:=fZ X f2;have nb:c.aE=(bd X s.f:Int):=hc.aE;have qe:aR X f=(bd X f:Int):=rfl;obtain⟨ka,kc,oF⟩:=cw hM.kp;have p16:w.cell? (GB fb 16)=some (.bool false):=(hM.aq.cell 16).trans (by show some (Value.bool c.ov)=_;rw[hc.ov]);have F1:=ab fun(W:World) (k:aa ai w W)=>abL (hM.new k)
 rw[hc.pl,show((s.l.head?.map (·.2)).getD (aR X s.i))=aR X f from f3]at F1;have F2:=ab fun(W:World) (k:aa ai w W)=>adn (p:=aR X f) (q:=(X.size:Int)) (op:=false) hg (hM.new k) (by omega) (by omega) (by omega) (by omega) (by omega) (by omega)
 have S1:Hid (∀W,aa ai w W->Tx fb ka (s.K X).size kc c.aE W):=fun W k=>by
  have:=hM.aq.kept k (fun hx=>hx);exact⟨by rw[<-oF];exact this.cell 4,this.cell 5⟩
 have aA:Hid (∀W,aa ai w W->∀v lx w1,FD W fb g c (s.K X) A s.mt.isSome s.l ay fix (wG c (s.K X) (aR X f) (X.size:Int) false) v lx w1->∃aG,DY w fb g X s v aG w1):=fun W k v lx w1 hL=>by
  obtain⟨aG,hC⟩:=aiJ hg hc hk CK f2 uv f1 f4 hL;have hs:=k.size;exact⟨aG,hC.c_.mono (fun i hi=>⟨Bh hs hi.1,hi.2⟩) (fun i hi=>hi.2),hC.eq,(k.mono (S':=fun i=>i=fb) (fun i hx=>hx.elim)).trans hC.kept⟩
 have yY:c.aE+((s.K X).size:Int)=(X.size:Int):=by omega
 have DA:IntKind.i64.wrap (c.aE+((s.K X).size:Int))=(X.size:Int):=by rw[yY];exact AA (by omega) (by omega)
 generalize(s.K X).size=kn at*
 generalize aca:c.aE=bg at*
 generalize aR X f=fv at*
 have ZW:=ab (And.intro oF aca);clear h hM hA hc hk b1 b2 b3 b4 b5 b6 f1 f2 f3 f4 uv CL pB We nb qe oF qf CK yY aca;go_in;go_wp2_with fail;refine j_ (Cl (by kernel_rfl) (Ci (S:=Tx fb ka kn kc bg) _ _ _ _ ?_));have ak:=S1.o w.drew (aa.refl _ _).drew;refine aj 0 8 (BT fb 0) ak ?_;refine aj 1 9 (BT fb 0) ak ?_;refine aj 3 11 (BT fb 0) ak ?_;refine aj 4 12 (BT fb 0) ak ?_;refine aj 5 13 (BT fb 5) ak ?_;refine aj 6 14 (GW bg) ak ?_;refine aj 7 15 (BT fb 0) ak ?_;refine aj 8 16 (BT fb 0) ak ?_;refine aj 9 17 (BT fb 4) ak ?_;refine aj 10 18 (.slice ka kn kc) ak ?_;refine aj 11 19 (GW (kn:Int)) ak ?_;refine aj 12 20 (GW (X.size:Int)) ak ?_;simp only[Act.put,Aa,Ad,Ac];refine bR 2 fun K hK=>?_
 go_simp;refine(F1.o _ (aa.refl _ _).drew).mono ?_;rintro e w1 ⟨rfl,rfl⟩;dsimp only;refine hK.o _ _ ak (fun _=>?_);clear hK K F1;refine bR 13 fun K hK=>?_
 go_simp;refine(F2.o _ (aa.refl _ _).drew).mono ?_;rintro e w2 ⟨v,lx,rfl,hL⟩;dsimp only;have kY:Tx fb ka kn kc bg w2:=⟨by rw[<-ZW.o.1];exact hL.mem.aq.cell 4,by rw[<-ZW.o.2];exact hL.mem.aq.cell 5⟩;have FF:=ab (aA.o _ (aa.refl _ _).drew _ _ _ hL);refine hK.o _ _ kY (fun _=>?_);clear hK K F2 aA hL;refine aj 14 2 v kY ?_;refine aj 15 3 (GW 0) kY ?_;simp only[Act.put,Aa,Ad,Ac];refine At (by kernel_rfl) ?_ _;refine jE ?_;clear S1 ak kY;go_simp;go_wp2_with fail;go_ret2;obtain⟨aG,hC⟩:=FF.o;exact⟨v,aG,rfl,hC⟩
def O9(w:World)(g:FM)(T:TypeId)(e:Ending)(w':World):Prop:=∃(eb:Nat) (ay fix:Nat->Prop),e=.returned (BT eb 0)/\mq w' (.iface T (BT eb 0)) g.ms (g.u0:Int) (-1) false [] ay fix/\(∀i,ay i->w.heap.size<=i)/\(∀i,fix i->g.cP i\/w.heap.size<=i)/\aa ai w w'
theorem FM.qu{f:FG}(h1:f.lo=g.lo)(h2:f.hi=g.hi)(h3:f.mb=g.mb)(i:Nat):f.cP i↔g.cP i:=by unfold FG.cP FM.cP;rw[h1,h2,h3]
theorem al6(hg:g.Ok)(hM:jj w g.lo g.hi g.mb g.cc g.vs g.ms):Calls prog 46 #[.agg #[.slice (some (GB g.mb 0)) g.ms.length g.cc,GW (g.u0:Int),GW (g.G:Int)]] w (O9 w g 125):=by
 refine(al1 hM hg.bN).mono ?_;rintro e w' ⟨eb,f,rfl,⟨a1,a2,a3,a4,a5,a6,a7,a8⟩,hE,⟨n1,n2,n3,n4⟩,uu,k⟩;have hm:∀i,f.cP i->i<w.heap.size:=fun i hi=>FM.uQ hM ((FM.qu a1 a2 a3 i).1 hi)
 have hu:=hg.u0;refine⟨eb,_,_,rfl,Or.inl ⟨eb,f,_,_,-1,rfl,⟨?_,?_,?_,uu,?_⟩,⟨⟨a6,a7⟩,?_,?_⟩,fun _ _ _ _ _=>rfl,hE,rfl,rfl⟩,?_,fun i hi=>Or.inl ((FM.qu a1 a2 a3 i).1 hi),k⟩
 ·rw[a6];exact hg.fJ
 ·rw[a6];exact⟨_,hg.q⟩
 ·rw[a6];exact hg.bN
 ·exact⟨fun h=>by have:=hm _ h;omega,fun h=>by have:=hm _ h;omega,fun h=>by have:=hm _ h;omega⟩
 ·rw[a7];omega
 ·rw[a6,a7];omega
 ·intro i hi;rcases hi with hi|((hi|hi|hi)|hi)|hi
  ·omega
  ·omega
  ·omega
  ·omega
  ·cases hi
  ·cases hi
theorem al2{mo:Int}(hg:g.Ok)(hM:jj w g.lo g.hi g.mb g.cc g.vs g.ms)(hC:o_ w g.lo g.hi base (.slice (some (GB g.mb 0)) g.ms.length g.cc) g.ms)(fD:2<=mo/\mo<=1000000000):Calls prog 47 #[.agg #[.slice (some (GB g.mb 0)) g.ms.length g.cc,GW (g.u0:Int),GW (g.G:Int)],GW mo] w (O9 w g 127):=by
 have hu:=hg.u0;refine(akY hM hC (by omega) hg.bN fD ⟨hg.fJ,_,hg.q⟩ (by omega)).mono ?_;rintro e w' ⟨eb,p,f,x,mv,rfl,⟨a1,a2,a3,a4,a5,a6,a7,a8⟩,hO,hI,hn,GU,k⟩;refine⟨eb,_,_,rfl,Or.inr ⟨eb,f,x,p,_,[],mv,rfl,hO,⟨a6,a7⟩,?_,rfl,rfl,rfl,fun t ht=>(by cases ht),hI,rfl,rfl⟩,hn,fun i hi=>?_,k⟩
 ·show pR g.ms (-1) (jR f.ms (-1))
  rw[a6];exact YC g.ms (-1)
 ·rcases hi with hi|⟨aB,hi⟩
  ·exact Or.inl ((FM.qu a1 a2 a3 i).1 hi)
  ·rw[hi];exact Or.inr (GU aB)
def cx.new:cx:=⟨0,0,0,0,0,[],none,-1⟩
def KV(w:World)(g:FM)(X:ByteArray)(o3:Int)(e:Ending)(w':World):Prop:=∃(fb:Nat) (c:FC) (ay fix:Nat->Prop),e=.returned (BT fb 0)/\jJ w' fb g X cx.new c ay fix/\(∀i,FO fb c ay i->w.heap.size<=i)/\(∀i,fix i->g.cP i\/w.heap.size<=i)/\c.wn=o3/\aa ai w w'
def Mr(g:FM)(ev:Value)(o3:Int):FC:=⟨g.mv,g.u0,g.G,ev,.slice none 0 0,0,-1,0,0,false,0,-1,0,0,false,o3,false⟩
theorem KV.of{F:Nat}{T:TypeId}{eb:Nat}(hM:jj w1 g.lo g.hi g.mb g.cc g.vs g.ms)(hX:X.size<=10000000)(hF:w.heap.size<=F/\F<w1.heap.size)(hB:au w1 F (Mr g .nilIface o3).cells 124)(k1:aa ai w w1)(hmw:∀i,g.cP i->i<w.heap.size)
 (hE:mq w2 (.iface T (BT eb 0)) g.ms (g.u0:Int) (-1) false [] ay fix)(ho:∀i,ay i->w1.heap.size<=i)(hf:∀i,fix i->g.cP i\/w1.heap.size<=i)(k2:aa ai w1 w2):
 KV w g X o3 (.returned (BT F 0)) (w2.setCell (GB F 3) (.iface T (BT eb 0))):=by
 have cZ:=k1.size;have k3:aa (fun i=>i=F) w2 (w2.setCell (GB F 3) (.iface T (BT eb 0))):=(aa.refl (fun i=>i=F) w2).setCell (p:=(GB F 3)) (Or.inl rfl) _;have B2:au w2 F (Mr g .nilIface o3).cells 124:=hB.kept k2 (fun hx=>hx);have Rq:∀i,g.cP i->i≠F:=fun i hi=>by have:=hmw i hi;omega
 refine⟨F,Mr g (.iface T (BT eb 0)) o3,ay,fix,rfl,⟨⟨-1,⟨B2.setCell 3 _,(hM.kept k2).NU k3 (fun i hi hm=>Rq i hm hi),rfl,rfl,rfl,?_,?_,fun i hi=>?_,fun i hi=>?_,?_⟩,?_⟩,⟨?_,?_,?_,?_,rfl,rfl,fun a j hm=>(by cases hm),rfl⟩,⟨pT.begin g.ms X g.u0 0 (Al _),⟨Ab _,fun t ht=>(by cases ht),fun a j hm=>(by cases hm)⟩,Ab _,Al _,?_,Al _,hX⟩⟩,fun i hi=>?_,fun i hi=>?_,rfl,?_⟩
 ·refine hE.kept k3 (fun i hi=>⟨fun h=>by have:=ho i h;have hi':i=F:=hi;omega,fun h=>?_⟩);have hi':i=F:=hi;rcases hf i h with h1|h1
  ·exact Rq i h1 hi'
  ·omega
 ·have e:((cx.new).K X)=⟨#[]⟩:=by
   unfold cx.K cx.new;rw[sS];apply Dj;apply Fp.1;rw[C0];simp
  rw[e];exact⟨rfl,Or.inl ⟨rfl,rfl⟩⟩
 ·have:=ho i hi;exact⟨by omega,fun h=>(by cases h),fun hm=>by have:=hmw i hm;omega⟩
 ·refine⟨?_,fun h=>(by cases h)⟩;rcases hi with hi|hi
  ·rcases hf i hi with h1|h1
   ·exact Rq i h1
   ·omega
  ·exact Rq i hi
 ·exact fun h=>(by cases h)
 ·exact fun _ _ _ _ _=>rfl
 ·show(0:Int)=aR X 0
  unfold aR;rw[sS];rfl
 ·exact vB.zero X
 ·show(0:Int)=aR X 0
  unfold aR;rw[sS];rfl
 ·show(0:Int)=aR X 0
  unfold aR;rw[sS];rfl
 ·show bd X 0<=0
  rw[sS];exact Ab _
 ·rcases hi with hi|hi|hi
  ·have:=ho i hi;omega
  ·omega
  ·cases hi
 ·rcases hf i hi with h1|h1
  ·exact Or.inl h1
  ·exact Or.inr (by omega)
 ·exact(k1.trans k2).setCell (p:=(GB F 3)) (Or.inr hF.1) _
def Zh(B:Nat)(g:FM)(o1 o2 o3:Int)(w':World):Prop:=sN B (some (GB g.mb 0)) g.ms.length g.cc (g.u0:Int) (g.G:Int) w'/\w'.cell? ⟨B+1,0,none⟩=some (GW o1)/\w'.cell? ⟨B+1,1,none⟩=some (GW o2)/\w'.cell? ⟨B+1,2,none⟩=some (GW o3)
theorem aiH(hg:g.Ok)(hM:jj w g.lo g.hi g.mb g.cc g.vs g.ms)(hC:o_ w g.lo g.hi base (.slice (some (GB g.mb 0)) g.ms.length g.cc) g.ms)(hX:X.size<=10000000)(Hs:2<=o2/\o2<=1000000000):
 Calls prog 25 #[.agg #[.slice (some (GB g.mb 0)) g.ms.length g.cc,GW (g.u0:Int),GW (g.G:Int)],.agg #[GW o1,GW o2,GW o3]] w (KV w g X o3):=by
 have B0:=(au.new w #[.slice (some (GB g.mb 0)) g.ms.length g.cc,GW (g.u0:Int),GW (g.G:Int)] 73).alloc (.cells #[GW o1,GW o2,GW o3] 30);have B1:=au.new (w.alloc (.cells #[.slice (some (GB g.mb 0)) g.ms.length g.cc,GW (g.u0:Int),GW (g.G:Int)] 73)) #[GW o1,GW o2,GW o3] 30;simp only[iy]at B1;have fN:Hid (∀W,aa ai ((w.alloc (.cells #[.slice (some (GB g.mb 0)) g.ms.length g.cc,GW (g.u0:Int),GW (g.G:Int)] 73)).alloc (.cells #[GW o1,GW o2,GW o3] 30)) W->Zh w.heap.size g o1 o2 o3 W):=fun W k=>⟨sN.of (B0.kept k (fun hx=>hx)),(B1.kept k (fun hx=>hx)).cell 0,(B1.kept k (fun hx=>hx)).cell 1,(B1.kept k (fun hx=>hx)).cell 2⟩
 have K00:Hid (aa ai w ((w.alloc (.cells #[.slice (some (GB g.mb 0)) g.ms.length g.cc,GW (g.u0:Int),GW (g.G:Int)] 73)).alloc (.cells #[GW o1,GW o2,GW o3] 30))):=((aa.refl ai w).alloc _).alloc _;have HT:Hid (∀W,aa ai w W->Calls prog 46 #[.agg #[.slice (some (GB g.mb 0)) g.ms.length g.cc,GW (g.u0:Int),GW (g.G:Int)]] W (O9 W g 125)):=fun W k=>al6 hg (hM.kept k)
 have HN:Hid (∀W,aa ai w W->Calls prog 47 #[.agg #[.slice (some (GB g.mb 0)) g.ms.length g.cc,GW (g.u0:Int),GW (g.G:Int)],GW o2] W (O9 W g 127)):=fun W k=>al2 hg (hM.kept k) (hC.kept k (fun _ _ _ hx=>hx) (fun _ _ hx=>hx) hM.le) Hs
 have aA:Hid (∀(w1 w2:World) (F:Nat) (T:TypeId) (eb:Nat) (ay fix:Nat->Prop),aa ai w w1->w.heap.size<=F/\F<w1.heap.size->au w1 F (Mr g .nilIface o3).cells 124->mq w2 (.iface T (BT eb 0)) g.ms (g.u0:Int) (-1) false [] ay fix->(∀i,ay i->w1.heap.size<=i)->(∀i,fix i->g.cP i\/w1.heap.size<=i)->aa ai w1 w2->KV w g X o3 (.returned (BT F 0)) (w2.setCell (GB F 3) (.iface T (BT eb 0)))):=fun w1 w2 F T eb ay fix k1 hF hB hE ho hf k2=>KV.of (hM.kept k1) hX hF hB k1 (fun i hi=>FM.uQ hM hi) hE ho hf k2
 clear B0 B1 hM hC hg;go_in;go_wp2_with fail;go_cut [5] (fun s5 wx=>∃(F:Nat),s5=BT F 0/\Hid (au wx F (Mr g .nilIface o3).cells 124)/\w.heap.size+2<=F/\Hid (aa ai ((w.alloc (.cells #[.slice (some (GB g.mb 0)) g.ms.length g.cc,GW (g.u0:Int),GW (g.G:Int)] 73)).alloc (.cells #[GW o1,GW o2,GW o3] 30)) wx))
 case first=>
  refine gD (S:=Zh w.heap.size g o1 o2 o3) 6 (by kernel_rfl) rfl rfl rfl (by kernel_rfl) (by kernel_rfl) ?_;have ak:=fN.o (((w.alloc (.cells #[.slice (some (GB g.mb 0)) g.ms.length g.cc,GW (g.u0:Int),GW (g.G:Int)] 73)).alloc (.cells #[GW o1,GW o2,GW o3] 30)).drew) (aa.refl _ _).drew;refine aj 0 6 (.agg #[.slice (some (GB g.mb 0)) g.ms.length g.cc,GW (g.u0:Int),GW (g.G:Int)]) ak ?_;refine aj 2 8 (.pointer (some ⟨w.heap.size+1,2,none⟩)) ak ?_;refine aj 3 9 (GW o3) ak ?_;simp only[Act.put,Aa,Ad,Ac];refine bR 1 fun K hK=>?_
  go_simp;refine(adI _).mono ?_;rintro e w5 ⟨rfl,k5⟩;dsimp only;have K5:=ab (((aa.refl ai ((w.alloc (.cells #[.slice (some (GB g.mb 0)) g.ms.length g.cc,GW (g.u0:Int),GW (g.G:Int)] 73)).alloc (.cells #[GW o1,GW o2,GW o3] 30))).drew).trans k5);have s5:=K5.o.size;simp only[iy]at s5;refine hK.o _ _ (fN.o _ K5.o) (fun _=>?_);clear hK K k5;refine bR 4 fun K hK=>?_
  go_simp;refine hK.o _ _ (fN.o _ K5.o) (fun _=>?_);clear hK K;refine bR 5 fun K hK=>?_
  go_simp;refine hK.o _ _ (fN.o _ (K5.o.alloc _)) (fun _=>?_);clear hK K;refine At (by kernel_rfl) ?_ _;unfold eo;simp only[Ak,Ag,Ah];go_simp;go_wp2_with fail;go_meet
  case rel=>exact⟨_,rfl,ab (au.new _ _ _),by omega,ab (K5.o.alloc _)⟩
 case rest=>
  obtain⟨F,rfl,HB,hF,HK⟩:=hcut;have fl:=fN.o _ HK.o;obtain⟨⟨s0,s1,s2⟩,s3,s4,s5⟩:=fl;have KW:=ab (K00.o.trans HK.o);have hFl:=HB.o.lt;by_cases he:o1=1
  ·have hz:(o1==1)=true:=(by simp[he]);clear he;go_wp2_with fail;refine(HT.o _ KW.o).mono ?_;rintro e w6 ⟨eb,ay,fix,rfl,hE,ho,hf,k6⟩;have b6:=HB.o.kept k6 (fun hx=>hx);have c3:w6.cell? (GB F 3)=some .nilIface:=b6.cell 3;have f3:w6.frozen? (GB F 3)=false:=b6.frozen 3;have FF:=ab (aA.o _ _ F _ eb ay fix KW.o ⟨by omega,hFl⟩ HB.o hE ho hf k6);clear b6 k6 hE ho hf;go_wp2_with fail;go_ret;exact FF.o
  ·have hz:(o1==1)=false:=(by simp[he]);clear he;go_wp2_with fail;refine(HN.o _ KW.o).mono ?_;rintro e w6 ⟨eb,ay,fix,rfl,hE,ho,hf,k6⟩;have b6:=HB.o.kept k6 (fun hx=>hx);have c3:w6.cell? (GB F 3)=some .nilIface:=b6.cell 3;have f3:w6.frozen? (GB F 3)=false:=b6.frozen 3;have FF:=ab (aA.o _ _ F _ eb ay fix KW.o ⟨by omega,hFl⟩ HB.o hE ho hf k6);clear b6 k6 hE ho hf;go_wp2_with fail;go_ret;exact FF.o
def x_(o1 o2 o3:Int):Bool:=decide (0<=o1)&&decide (o1<=2)&&decide (2<=o2)&&decide (o2<=1000)&&decide (0<=o3)&&decide (o3<=1000000)
theorem alz(w:World)(o1 o2 o3:Int):Calls prog 24 #[.agg #[GW o1,GW o2,GW o3]] w fun e w'=>e=.returned (.bool (x_ o1 o2 o3))/\aa ai w w':=by
 by_cases h1:(0:Int)<=o1
 ·by_cases h2:o1<=2
  ·by_cases h3:(2:Int)<=o2
   ·by_cases h4:o2<=1000
    ·by_cases h5:(0:Int)<=o3
     ·by_cases h6:o3<=1000000
      ·go_enter func24,ntmps24
       go_wp2_with fail
       go_ret
       exact⟨by simp[x_,h1,h2,h3,h4,h5,h6],(aa.refl ai w).alloc _⟩
      ·have h6':decide (o3<=1000000)=false:=Bg h6;go_enter func24,ntmps24;go_wp2_with fail;go_ret;exact⟨by simp[x_,h1,h2,h3,h4,h5]<;>omega,(aa.refl ai w).alloc _⟩
     ·have ME:decide ((0:Int)<=o3)=false:=Bg h5;go_enter func24,ntmps24;go_wp2_with fail;go_ret;exact⟨by simp[x_,h1,h2,h3,h4]<;>omega,(aa.refl ai w).alloc _⟩
    ·have Vs:decide (o2<=1000)=false:=Bg h4;go_enter func24,ntmps24;go_wp2_with fail;go_ret;exact⟨by simp[x_,h1,h2,h3]<;>omega,(aa.refl ai w).alloc _⟩
   ·have yW:decide ((2:Int)<=o2)=false:=Bg h3;go_enter func24,ntmps24;go_wp2_with fail;go_ret;exact⟨by simp[x_,h1,h2]<;>omega,(aa.refl ai w).alloc _⟩
  ·have h2':decide (o1<=2)=false:=Bg h2;go_enter func24,ntmps24;go_wp2_with fail;go_ret;exact⟨by simp[x_,h1]<;>omega,(aa.refl ai w).alloc _⟩
 ·have h_:decide ((0:Int)<=o1)=false:=Bg h1;go_enter func24,ntmps24;go_wp2_with fail;go_ret;exact⟨by simp[x_]<;>omega,(aa.refl ai w).alloc _⟩
structure sQ(w:World)(sb fb:Nat)(g:FM)(X:ByteArray)(s:cx)(c:FC)(ay fix:Nat->Prop):Prop where
 aq:au w sb #[BT sb 0,BT fb 0] 79
 at_:jJ w fb g X s c ay fix
 ap:¬FO fb c ay sb/\¬fix sb/\¬g.cP sb
theorem sQ.kept{S:Nat->Prop}(h:sQ w sb fb g X s c ay fix)(k:aa S w w')(hS:∀i,S i->i≠sb/\¬FO fb c ay i/\¬fix i/\¬g.cP i):sQ w' sb fb g X s c ay fix:=
 ⟨h.aq.kept k (fun hs=>(hS sb hs).1 rfl),h.at_.kept k (fun i hi=>(hS i hi).2),h.ap⟩
theorem sQ.new(h:sQ w sb fb g X s c ay fix)(k:aa ai w w'):sQ w' sb fb g X s c ay fix:=h.kept k (fun _ hx=>hx.elim)
structure LQ(p X:ByteArray)(g:FM):Prop where
 ok:g.Ok
 G:g.G=gM p
 iI:∀i,i<=(aJ X).length->eV g.ms (aQ X) g.u0 g.G i=IJ (lM p) (gM p) (iA X) i
 cP:∃V j,sM (lM p) V j/\g.ms=sorted (fy (lM p)).1 V/\V.num.getD j 0=(g.u0:Int)
def agq(w:World)(p X:ByteArray)(o3:Int)(e:Ending)(w':World):Prop:=aa ai w w'/\
 ((jH p≠0/\e=.returned (.tuple #[.pointer none,GW (jH p)]))\/(jH p=0/\∃(sb fb:Nat) (g:FM) (c:FC) (ay fix:Nat->Prop),e=.returned (.tuple #[BT sb 0,GW 0])/\sQ w' sb fb g X cx.new c ay fix/\LQ p X g/\c.wn=o3/\∀i,FO fb c ay i\/i=sb->w.heap.size<=i))
def LN(B P:Nat)(q:Nv)(x:Int)(y:Option Nat)(o1 o2 o3:Int)(w':World):Prop:=(w'.cell? (GB B 0)=some (GW o1)/\w'.cell? (GB B 1)=some (GW o2)/\w'.cell? (GB B 2)=some (GW o3))/\
 w'.cell? (GB P 0)=some (GW q.k)/\w'.cell? (GB P 1)=some (.slice q.pa q.pn q.pc)/\w'.cell? (GB P 2)=some (.slice q.sa q.sn q.sc)/\w'.cell? (GB P 3)=some (GW q.ed)/\w'.cell? (GB P 4)=some (GW q.gr)/\w'.cell? (GB P 5)=some (GW q.lo)/\w'.cell? (GB P 6)=some (GW q.hi)/\w'.cell? (GB P 7)=some (.bool q.lz)/\w'.cell? (GB P 8)=some (GW x)/\w'.cell? (GB P 9)=some (.map y)
theorem LN.of{B P:Nat}{q:Nv}{x:Int}{y:Option Nat}{t t':TypeId}(h:au W B #[GW o1,GW o2,GW o3] t)(h':au W P (gC q x y) t'):LN B P q x y o1 o2 o3 W:=⟨⟨h.cell 0,h.cell 1,h.cell 2⟩,h'.OQ⟩
theorem amo(p X:ByteArray)(w:World)(hp:p.size<=maxLen)(hX:X.size<=10000000)(hT:iM w)(o1 o2 o3:Int)(ho:x_ o1 o2 o3=true):
 Calls prog 14 #[.string p,.agg #[GW o1,GW o2,GW o3]] w (agq w p X o3):=by
 have HT:=ab hT;have B0:=au.new w #[GW o1,GW o2,GW o3] 30;have HB:=ab B0;have K0:Hid (aa ai w (w.alloc (.cells #[GW o1,GW o2,GW o3] 30))):=(aa.refl ai w).alloc _;have js:(w.alloc (.cells #[GW o1,GW o2,GW o3] 30)).heap.size=w.heap.size+1:=by simp
 have HO:=ab ho;clear hT B0 ho;by_cases hl:300<p.size
 ·have e1:jH p=1:=if_pos hl;have F:=ab (aeM p (w.alloc (.cells #[GW o1,GW o2,GW o3] 30)) hl hp);have HE:=ab e1;clear e1;go_in;go_wp2_with fail;refine(F.o).mono ?_;rintro e w1 ⟨rfl,k1⟩;have K1:=ab (K0.o.trans k1);clear k1 F;simp only[pM,gC];go_wp2_with fail;go_ret2;refine⟨?_,Or.inl ⟨by rw[HE.o];decide,by rw[HE.o];rfl⟩⟩;exact K1.o.alloc _
 ·have tm:p.size<=300:=by omega
  have F:=ab (aeN p (w.alloc (.cells #[GW o1,GW o2,GW o3] 30)) tm);go_in;go_wp2_with fail;generalize(w.alloc (.cells #[GW o1,GW o2,GW o3] 30))=w0 at*;refine(F.o).mono ?_;rintro e w1 ⟨g,q,x,y,st,kH,oI,rfl,k1,bD,dB⟩;obtain⟨a1,a2,a3⟩:=afW kH oI;rw[a1]at bD dB;rw[a2,a3]at dB;have Hx:(pick (kX g p)).1=jH p:=by unfold jH;rw[if_neg hl,a3]
  have Ny:(pick (kX (pO p) p)).1=jH p:=by unfold jH;rw[if_neg hl]
  rw[Hx];rw[Ny]at dB;clear Hx Ny a1 a2 a3 kH oI;generalize(pick (kX g p)).2=pl;have K1:=ab (K0.o.trans k1);have gF:=ab (HB.o.kept k1 (fun hx=>hx));have s1:=k1.size;clear k1 F HB;by_cases he:jH p=0
  ·obtain⟨hx,hy,wt,xM,xR⟩:=dB he;obtain⟨c1,c2,c3,c4⟩:=aeE tm he;have hG:x=(gM p:Int):=by rw[hx,bD];rfl
   have VB:gM p<=100000:=by
    have h1:=wt.aT;have h2:=(wt.next);have h3:=wt.len;have h4:st.aT=gM p:=by rw[bD];rfl
    simp only at h1 h2;omega
   have G5:(lM p).sz<=1000:=by have:=xM.size_eq;rw[show lM p=pk (pO p) (dI p)from rfl,this];exact c2
   subst hG;have HE:=ab he;have Pz:Hid (cJ w1 w0.heap.size w1.heap.size q (eJ (pO p) (dI p)).2 (lM p)):=xM;rw[he];clear hx hy wt xM xR dB bD he c2;simp only[pM,gC];have L1:=ab (And.intro (gF.o.alloc (.cells #[GW q.k,.slice q.pa q.pn q.pc,.slice q.sa q.sn q.sc,GW q.ed,GW q.gr,GW q.lo,GW q.hi,.bool q.lz,GW (gM p:Int),.map y] 67)) (au.new w1 #[GW q.k,.slice q.pa q.pn q.pc,.slice q.sa q.sn q.sc,GW q.ed,GW q.gr,GW q.lo,GW q.hi,.bool q.lz,GW (gM p:Int),.map y] 67));have oO:Hid (aa ai w1 (w1.alloc (.cells #[GW q.k,.slice q.pa q.pn q.pc,.slice q.sa q.sn q.sc,GW q.ed,GW q.gr,GW q.lo,GW q.hi,.bool q.lz,GW (gM p:Int),.map y] 67))):=(aa.refl ai w1).alloc _;have d0:w1.cell? (GB w.heap.size 0)=some (GW o1):=gF.o.cell 0;have d1:w1.cell? (GB w.heap.size 1)=some (GW o2):=gF.o.cell 1;have d2:w1.cell? (GB w.heap.size 2)=some (GW o3):=gF.o.cell 2;have ajT:w.heap.size<w1.heap.size:=(by omega);go_wp2_with fail;refine(alz _ o1 o2 o3).mono ?_;rintro e w2 ⟨rfl,k2⟩;rw[HO.o];have EK:=ab (And.intro (L1.o.1.kept k2 (fun hx=>hx)) (L1.o.2.kept k2 (fun hx=>hx)));have K2:=ab (oO.o.trans k2);have s2:=K2.o.size;have fN:Hid (∀W,aa ai w2 W->LN w.heap.size w1.heap.size q (gM p:Int) y o1 o2 o3 W):=(fun W k=>LN.of (EK.o.1.kept k (fun hx=>hx)) (EK.o.2.kept k (fun hx=>hx)));have agl:=ab (Pz.o.kept K2.o (fun _ _ _ hx=>hx) (Ab _));clear L1 oO k2 d0 d1 d2 Pz;go_wp2_with fail;refine gD (S:=LN w.heap.size w1.heap.size q (gM p:Int) y o1 o2 o3) 6 (by kernel_rfl) rfl rfl rfl (by kernel_rfl) (by kernel_rfl) ?_;have ak:=fN.o w2.drew (aa.refl _ _).drew;refine aj 0 24 (.agg #[GW q.k,.slice q.pa q.pn q.pc,.slice q.sa q.sn q.sc,GW q.ed,GW q.gr,GW q.lo,GW q.hi,.bool q.lz,GW (gM p:Int),.map y]) ak ?_;refine aj 2 26 (.agg #[GW o1,GW o2,GW o3]) ak ?_;simp only[Act.put,Aa,Ad,Ac];refine bR 1 fun K hK=>?_
   have F:=aak (agl.o.kept ((aa.refl ai w2).drew) (fun _ _ _ hx=>hx) (by omega)) (by show w1.heap.size<=w2.heap.size;omega) c1 G5 (gM p:Int) y;simp only[pM,gC]at F;have F:=ab F;go_simp;refine(F.o).mono ?_;rintro e w5 ⟨v5,V,j,rfl,k5,fD,Hn,dc⟩;dsimp only;have K5:=ab (((aa.refl ai w2).drew).trans k5);have KW5:=ab ((K1.o.trans K2.o).trans K5.o);refine hK.o _ _ (fN.o _ K5.o) (fun _=>?_);clear hK K F;have s5:=K5.o.size;obtain⟨u0,CZ,kI⟩:=fD.start;have Ns:=fD.XV.1;have gX:(sorted (fy (lM p)).1 V).length=V.aP.length:=(by simp[sorted]);obtain⟨mb,cc,vs,ib,JQ⟩:=Hn.ma (by intro e;have:=congrArg List.length e;rw[gX]at this;have h0:V.aP.length=0:=this;omega) (by omega) (HT.o.iR KW5.o);obtain⟨G,vQ⟩:∃G:FM,G=⟨w0.heap.size,w1.heap.size,mb,cc,vs,sorted (fy (lM p)).1 V,u0,gM p⟩:=⟨_,rfl⟩
   have VK:LQ p X G:=by
    rw[vQ];refine⟨⟨fD.fJ (Mc c3 c4),aft (Mc c3 c4),by show(sorted (fy (lM p)).1 V).length<=4001;rw[gX];omega,by show u0<(sorted (fy (lM p)).1 V).length;rw[gX];exact kI,VB⟩,rfl,fun i hi=>?_,V,j,fD,rfl,CZ⟩;exact ae4 (fD.fJ (Mc c3 c4)) X (fD.iI c1 G5 c3 (iA X) CZ hi (gR (gM p))) hi
   have Wz:jj w5 G.lo G.hi G.mb G.cc G.vs G.ms:=by rw[vQ];exact JQ
   have Rt:∃base,o_ w5 G.lo G.hi base (.slice (some (GB G.mb 0)) G.ms.length G.cc) G.ms:=by rw[vQ];rw[ib]at Hn;exact⟨_,Hn⟩
   obtain⟨ars,Rt⟩:=Rt;have Hs:2<=o2/\o2<=1000000000:=by have:=HO.o;simp[x_]at this;omega
   have F2:=ab (aiH (X:=X) (o1:=o1) (o3:=o3) VK.ok Wz Rt hX Hs);have hv6:v5=.slice (some (GB G.mb 0)) G.ms.length G.cc:=by rw[vQ];exact ib
   have J2:V.num.getD j 0=(G.u0:Int):=by rw[vQ];exact CZ
   have hv8:(gM p:Int)=(G.G:Int):=(by rw[vQ]);rw[hv6,J2];have agm:=ab VK;have HMW:Hid (∀i,G.cP i->i<w5.heap.size):=(fun i hi=>FM.uQ Wz hi);have HG8:=ab hv8;clear fD Hn JQ Wz Rt gX Ns dc k5 ib hv6 J2 hv8 CZ kI VK vQ Hs;refine bR 3 fun K hK=>?_
   go_simp;rw[show(gM p:Int)=(G.G:Int)from HG8.o];refine(F2.o).mono ?_;rintro e w6 ⟨fb,c,ay,fix,rfl,hA,hO,hf,RM,k6⟩;dsimp only;have K6:=ab (K5.o.trans k6);refine hK.o _ _ (fN.o _ K6.o) (fun _=>?_);clear hK K F2;have aqw:fb<w6.heap.size:=by obtain⟨A,hM,_⟩:=hA.mem;exact hM.aq.lt
   have EO:Hid (∀i,FO fb c ay i\/fix i\/G.cP i->i<w6.heap.size):=fun i hi=>by obtain⟨A,hM,_⟩:=hA.mem;exact hM.lt hi
   have HOW:Hid (∀i,FO fb c ay i->w.heap.size<=i):=(fun i hi=>Bh KW5.o.size (hO i hi));have HA:=ab (And.intro hA RM);clear hA RM hO hf;refine bR 4 fun K hK=>?_
   go_simp;refine hK.o _ _ (fN.o _ K6.o) (fun _=>?_);clear hK K;refine bR 5 fun K hK=>?_
   go_simp;refine hK.o _ _ (fN.o _ (K6.o.alloc _)) (fun _=>?_);clear hK K;refine At (by kernel_rfl) ?_ _;unfold eo;simp only[Ak,Ag,Ah];go_simp;go_wp2_with fail;go_ret2;have KW:=((K1.o.trans K2.o).trans K6.o);refine⟨KW.alloc _,Or.inr ⟨HE.o,w6.heap.size,fb,G,c,ay,fix,rfl,⟨?_,?_,?_⟩,agm.o,HA.o.2,fun i hi=>hi.elim (HOW.o i) (fun e=>by rw[e];exact KW.size)⟩⟩
   ·exact au.new w6 _ _
   ·exact HA.o.1.new ((aa.refl ai w6).alloc _)
   ·exact⟨fun h=>by have:=EO.o _ (Or.inl h);omega,fun h=>by have:=EO.o _ (Or.inr (Or.inl h));omega,fun h=>by have:=EO.o _ (Or.inr (Or.inr h));omega⟩
  ·obtain⟨pe,qD⟩:∃pe,Hid (jH p=pe):=⟨_,(rfl:_=_)⟩
   rw[qD.o]at he⊢;have aB:(pe !=0)=true:=(by simpa using he);have HE:=ab he;simp only[pM,gC];clear dB he;go_wp2_with fail;go_ret2;exact⟨K1.o.alloc _,Or.inl ⟨by rw[qD.o];exact HE.o,by rw[qD.o];rfl⟩⟩
