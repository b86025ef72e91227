/- trawl -/
import Derived.Test.YtpdnofhackjfdaaGreatDoorP44
set_option linter.all false
set_option maxRecDepth 100000
set_option maxHeartbeats 4000000
namespace Go.Proofs.YtpdnofhackjfdaaGreatDoor
open Go.Proofs.Tryz
open Go.RowKit Go.Maps
variable {X p:ByteArray} {c c':FC} {g:FM} {s s':cx} {J:cx->Prop} {most:Int} {aG dh:List (Ev×Value)} {P:List ByteArray} {R0:List Ev} {fb i j k n rb sb tb xb:Nat} {O O' O2 fix ay cG:Nat->Prop} {H:Type} {pv v v2 v3:Value} {Q:Value->World->Prop} {W w w' w0 w1 w2 w3 wr:World}
theorem ahu(a b c:Value)(w:World):CallsD prog 48 #[a,b,c] .returning w fun e u' w'=>e=.returned (.tuple #[])/\u'=.returning/\w'=w:=by
 refine callsD_of_wpS func48 rfl fun c₀ cs hu=>?_
 apply wpS_seq
 apply wpS_region
 simp[wpOpsS,go_sem,recoverD,hu,ntmps48,Exit.thenS]
 refine wpS_cond (t:=false) (by simp[Act.eval,Array.replicate]) ?_;simp only[Aq,if_false];refine wpS_of_wp (wp_skip ?_)
 cases c₀;simp_all[bodyPostS,results,results48]
theorem aii(W:World)(d b:Nat):(Op.equalIn (d+1) 38 (BT b 0) (BT b 0)).run prog W=.ok true W:=by
 have h:prog.underlying 38=some (.pointer 79):=underlying38;simp[Op.equalIn,Gi h,sameAddr]
theorem aij(W:World)(b:Nat):(Op.equal 38 (BT b 0) (BT b 0)).run prog W=.ok true W:=aii W 9999 b
theorem al0(W:World)(b:Nat):(binOp .neq 38 (BT b 0) (BT b 0)).run prog W=.ok (.bool false) W:=by
 simp only[binOp];simp[aij W b]
def LO(w W:World)(i:Nat):Prop:=i<w.heap.size\/W.heap.size<=i
theorem abY{N:Nat}{cv:Value}{P:Value->Int->World->Prop}(hB:au w sb #[BT sb 0,BT fb 0] 79)(MX:∀a W,(callFunc N a).run prog W=.ok (.enter N a) W)
 (acd:∀W,aa ai w W->w.heap.size+3<=W.heap.size->Calls prog N #[BT fb 0,cv] W fun e w'=>∃(ao:Option Addr) (n c:Nat) (er:Int),e=.returned (.tuple #[.slice ao n c,GW er])/\P (.slice ao n c) er w'/\aa (LO w W) W w'):
 Calls prog 26 #[BT sb 0,.func (.func N) #[] #[cv]] w fun e w'=>∃(v:Value) (er:Int) (w1:World),e=.returned (.tuple #[v,GW er])/\P v er w1/\w.heap.size+3<=w1.heap.size/\aa (fun i=>i=w.heap.size+1\/i=w.heap.size+2) w1 w':=by
 have WA:∀(fn:Fn) (first cap:Array Value) (w:World),(Instr.makeFunc fn first cap).run prog w=.ok (.func fn first cap) w:=fun _ _ _ _=>rfl
 have WE:∀W,(binOp .neq 38 (BT sb 0) (BT sb 0)).run prog W=.ok (.bool false) W:=fun W=>al0 W sb
 have az:=hB.lt;have K0:aa ai w (((w.alloc (.cells #[BT sb 0] 38)).alloc (.cells #[.slice none 0 0] 24)).alloc (.cells #[GW 0] 25)):=(((aa.refl ai w).alloc _).alloc _).alloc _;have L0:au (((w.alloc (.cells #[BT sb 0] 38)).alloc (.cells #[.slice none 0 0] 24)).alloc (.cells #[GW 0] 25)) w.heap.size #[BT sb 0] 38:=((au.new w #[BT sb 0] 38).alloc _).alloc _
 have L1:au (((w.alloc (.cells #[BT sb 0] 38)).alloc (.cells #[.slice none 0 0] 24)).alloc (.cells #[GW 0] 25)) (w.heap.size+1) #[.slice none 0 0] 24:=by
  have:=(au.new (w.alloc (.cells #[BT sb 0] 38)) #[.slice none 0 0] 24).alloc (.cells #[GW 0] 25);simpa using this
 have L2:au (((w.alloc (.cells #[BT sb 0] 38)).alloc (.cells #[.slice none 0 0] 24)).alloc (.cells #[GW 0] 25)) (w.heap.size+1+1) #[GW 0] 25:=by
  have:=au.new ((w.alloc (.cells #[BT sb 0] 38)).alloc (.cells #[.slice none 0 0] 24)) #[GW 0] 25;simpa using this
 have aW:(((w.alloc (.cells #[BT sb 0] 38)).alloc (.cells #[.slice none 0 0] 24)).alloc (.cells #[GW 0] 25)).heap.size=w.heap.size+3:=by simp
 have HB:=ab (hB.kept K0 (fun hx=>hx));have HC:=ab acd;clear hB acd;go_enter_defers func26,ntmps26;go_wp2_with fail;generalize(((w.alloc (.cells #[BT sb 0] 38)).alloc (.cells #[.slice none 0 0] 24)).alloc (.cells #[GW 0] 25))=W at*;have d0:W.cell? (GB w.heap.size 0)=some (BT sb 0):=L0.cell 0;have e0:W.cell? (GB sb 0)=some (BT sb 0):=HB.o.cell 0;have e1:W.cell? (GB sb 1)=some (BT fb 0):=HB.o.cell 1;have KK:=ab K0;have HL:=ab (And.intro L1 L2);clear K0 L0 L1 L2;go_big_quiet (fail);have K1:=ab (KK.o.drewN nq);have Ue:Hid (au (W.drewN nq) (w.heap.size+1) #[.slice none 0 0] 24/\au (W.drewN nq) (w.heap.size+1+1) #[GW 0] 25):=HL.o;have d0':(W.drewN nq).cell? (GB w.heap.size 0)=some (BT sb 0):=d0;have ue:(W.drewN nq).cell? (GB sb 1)=some (BT fb 0):=e1;have arc:(W.drewN nq).heap.size=w.heap.size+3:=aW;generalize W.drewN nq=W1 at*;clear d0 e0 e1 KK HL aW;go_wp2_with fail;refine(HC.o W1 K1.o (by omega)).mono ?_;rintro e w2 ⟨ao,n,c,er,rfl,hP,k2⟩;have b1:=Ue.o.1.kept k2 (show¬LO w W1 (w.heap.size+1) by unfold LO;omega);have b2:=Ue.o.2.kept k2 (show¬LO w W1 (w.heap.size+1+1) by unfold LO;omega);have g1:w2.cell? ⟨w.heap.size+1,0,none⟩=some (.slice none 0 0):=b1.cell 0;have g2:w2.cell? ⟨w.heap.size+1+1,0,none⟩=some (GW 0):=b2.cell 0;have f1:w2.frozen? ⟨w.heap.size+1,0,none⟩=false:=b1.frozen 0;have f2:w2.frozen? ⟨w.heap.size+1+1,0,none⟩=false:=b2.frozen 0;have HP:=ab hP;have gg:=k2.size;have yv:=ab (And.intro b1 b2);clear hP k2 b1 b2 HC Ue;have b9:=(yv.o.1.setCell 0 (.slice ao n c)).qw (p:=⟨w.heap.size+1+1,0,none⟩) (show w.heap.size+1≠w.heap.size+1+1 by omega) (GW er);have c9:=(yv.o.2.qw (p:=⟨w.heap.size+1,0,none⟩) (show w.heap.size+1+1≠w.heap.size+1 by omega) (.slice ao n c)).setCell 0 (GW er);have r1:((w2.setCell ⟨w.heap.size+1,0,none⟩ (.slice ao n c)).setCell ⟨w.heap.size+1+1,0,none⟩ (GW er)).cell? ⟨w.heap.size+1,0,none⟩=some (.slice ao n c):=b9.cell 0;have r2:((w2.setCell ⟨w.heap.size+1,0,none⟩ (.slice ao n c)).setCell ⟨w.heap.size+1+1,0,none⟩ (GW er)).cell? ⟨w.heap.size+1+1,0,none⟩=some (GW er):=c9.cell 0;have k9:Hid (aa (fun i=>i=w.heap.size+1\/i=w.heap.size+2) w2 ((w2.setCell ⟨w.heap.size+1,0,none⟩ (.slice ao n c)).setCell ⟨w.heap.size+1+1,0,none⟩ (GW er))):=((aa.refl (fun i=>i=w.heap.size+1\/i=w.heap.size+2) w2).setCell (p:=⟨w.heap.size+1,0,none⟩) (Or.inl (Or.inl rfl)) _).setCell (p:=⟨w.heap.size+1+1,0,none⟩) (Or.inl (Or.inr rfl)) _;clear b9 c9;go_wp2_with fail;generalize((w2.setCell ⟨w.heap.size+1,0,none⟩ (.slice ao n c)).setCell ⟨w.heap.size+1+1,0,none⟩ (GW er))=w9 at*;refine leaves_cons (f:=48) (args:=#[BT w.heap.size 0,.pointer (some ⟨w.heap.size+1,0,none⟩),.pointer (some ⟨w.heap.size+1+1,0,none⟩)]) (by simp) (by simp[go_sem]) ?_;refine(ahu _ _ _ _).mono ?_;rintro e u' qx ⟨rfl,rfl,rfl⟩;simp[Leaves,settle,results,results26,go_sem,r1,r2];exact⟨_,_,⟨rfl,rfl⟩,w2,HP.o,by omega,k9.o⟩
theorem aiw{b3:Nat}(hB:au w b3 #[pv] 42)(F:Calls prog 28 #[BT fb 0,pv] w fun e w'=>∃v,e=.returned (.tuple #[v,GW 0])/\Q v w'):
 Calls prog 27 #[BT fb 0,BT b3 0] w fun e w'=>∃v,e=.returned (.tuple #[v,GW 0])/\Q v w':=by
 have c0:w.cell? (GB b3 0)=some pv:=hB.cell 0;have F:=ab F;clear hB;go_in;go_wp2_with fail;refine(F.o).mono ?_;rintro e w1 ⟨v,rfl,hQ⟩;have HQ:=ab hQ;clear hQ F;go_wp2_with fail;go_ret2;exact⟨v,rfl,HQ.o⟩
structure xq(w:World)(sb fb:Nat)(g:FM)(X:ByteArray)(s:cx)(n:Nat)(c:FC)(ay fix:Nat->Prop)(J:cx->Prop)(v:Value)(aG:List (Ev×Value))(s':cx)(c':FC)(cG O:Nat->Prop)(w':World):Prop where
 at_:sQ w' sb fb g X s' c' cG fix
 c_:dY w' O v X aG
 ap:∀i,O i->w.heap.size<=i/\¬FO fb c' cG i
 dt:cH (FO fb c ay) (FO fb c' cG) w w'
 rest:s.rest g.ms g.u0 g.G X=aG.map (·.1)++s'.rest g.ms g.u0 g.G X
 bu:s'.bu=s.bu+n
 fO:s'.l=[]->s'.mt=none
 BL:yU X s'.i s'.l=aR X s'.f
 full:vP (X.extract (bd X s'.i) s'.bu)=false
 wn:c'.wn=c.wn
 j:J s'
theorem ahn(a:Array Value)(w:World):(callFunc 27 a).run prog w=.ok (.enter 27 a) w:=by kernel_rfl
theorem xq.of(h:sQ w sb fb g X s c ay fix)(k1:aa ai w w1)(k2:aa ai w1 W)(hW:w1.heap.size+3<=W.heap.size)(hT:xr W fb g X s n c ay fix J v aG s' c' cG O w2)(k3:aa (fun i=>i=w1.heap.size+1\/i=w1.heap.size+2) w2 w3):xq w sb fb g X s n c ay fix J v aG s' c' cG O w3:=by
 have cZ:=k1.size;have gg:=k2.size;have ri:=hT.dt.kept.size;have az:∀i,FO fb c ay i\/fix i\/g.cP i->i<w.heap.size:=fun i hi=>by obtain⟨A,hM,_⟩:=h.at_.mem;exact hM.lt hi
 have xO:=h.aq.lt;have kW:aa ai w W:=k1.trans k2
 have hS:∀i,(i=w1.heap.size+1\/i=w1.heap.size+2)->¬FO fb c' cG i/\¬fix i/\¬g.cP i:=fun i hi=>by
  refine⟨fun hf=>?_,fun hf=>?_,fun hf=>?_⟩
  ·rcases hT.dt.aq i hf with hx|hx
   ·have:=az i (Or.inl hx);omega
   ·omega
  ·have:=az i (Or.inr (Or.inl hf));omega
  ·have:=az i (Or.inr (Or.inr hf));omega
 have kJ:aa (FO fb c ay) w w2:=(kW.mono (S':=FO fb c ay) (fun i hx=>hx.elim)).trans hT.dt.kept;refine⟨⟨?_,hT.at_.kept k3 hS,fun hf=>?_,h.ap.2.1,h.ap.2.2⟩,hT.c_.kept k3 (fun i hi hx=>?_),fun i hi=>⟨by have:=(hT.ap i hi).1;omega,(hT.ap i hi).2⟩,⟨kJ.b_ k3 (fun i hi hx=>by omega),fun i hf=>?_⟩,hT.rest,hT.bu,hT.fO,hT.BL,hT.full,hT.wn,hT.j⟩
 ·exact(h.aq.kept kJ h.ap.1).kept k3 (fun hx=>by omega)
 ·rcases hT.dt.aq sb hf with hx|hx
  ·exact h.ap.1 hx
  ·omega
 ·have:=(hT.ap i hi).1;omega
 ·rcases hT.dt.aq i hf with hx|hx
  ·exact Or.inl hx
  ·exact Or.inr (by omega)
theorem aoI(hg:g.Ok)(h:sQ w sb fb g X s c ay fix)(qf:s.l=[]->s.mt=none)(hn:s.bu+n<=X.size)(hp:jI w pv (X.extract s.bu (s.bu+n)))(hJ:Pd g X J)(hj:J (s.fp n))(hw:c.wn=0):
 Calls prog 15 #[BT sb 0,pv] w fun e w'=>∃v aG s' c' cG O,e=.returned (.tuple #[v,GW 0])/\xq w sb fb g X s n c ay fix J v aG s' c' cG O w':=by
 have WA:∀(fn:Fn) (first cap:Array Value) (w:World),(Instr.makeFunc fn first cap).run prog w=.ok (.func fn first cap) w:=fun _ _ _ _=>rfl
 obtain⟨pa,pn,pc,NC⟩:∃pa pn pc,pv=.slice pa pn pc:=by
  rcases hp with⟨e,_⟩|⟨b,off,cap,e,_⟩
  ·exact⟨_,_,_,e⟩
  ·exact⟨_,_,_,e⟩
 subst NC;have k1:aa ai w (w.alloc (.cells #[.slice pa pn pc] 42)):=(aa.refl ai w).alloc _;have B3:=au.new w #[.slice pa pn pc] 42;have az:∀i,FO fb c ay i\/fix i\/g.cP i->i<w.heap.size:=fun i hi=>by obtain⟨A,hM,_⟩:=h.at_.mem;exact hM.lt hi
 have cZ:(w.alloc (.cells #[.slice pa pn pc] 42)).heap.size=w.heap.size+1:=by simp
 have F:=abY (w:=w.alloc (.cells #[.slice pa pn pc] 42)) (sb:=sb) (fb:=fb) (N:=27) (cv:=BT w.heap.size 0) (P:=fun v er w'=>er=0/\∃W aG s' c' cG O,aa ai (w.alloc (.cells #[.slice pa pn pc] 42)) W/\(w.alloc (.cells #[.slice pa pn pc] 42)).heap.size+3<=W.heap.size/\xr W fb g X s n c ay fix J v aG s' c' cG O w') (h.aq.kept k1 (fun hx=>hx)) ahn
  (fun W k hW=>by
    refine(aiw (Q:=fun v w'=>∃aG s' c' cG O,xr W fb g X s n c ay fix J v aG s' c' cG O w') (B3.kept k (fun hx=>hx)) ((aix hg (h.at_.new (k1.trans k)) qf hn (hp.new (k1.trans k)) hJ hj hw).mono ?_)).mono ?_
    ·rintro e w' ⟨v,aG,s',c',cG,O,rfl,hT⟩;exact⟨v,rfl,aG,s',c',cG,O,hT⟩
    ·rintro e w' ⟨v,rfl,aG,s',c',cG,O,hT⟩;obtain⟨ao,cc,hv⟩:=cw hT.c_.row;subst hv;refine⟨_,_,_,_,rfl,⟨rfl,W,aG,s',c',cG,O,k,hW,hT⟩,hT.dt.kept.mono (fun i hi=>Or.inl ?_)⟩;have:=az i (Or.inl hi);omega)
 have F:=ab F;have HF:Hid (∀W w2 w3 v aG s' c' cG O,aa ai (w.alloc (.cells #[.slice pa pn pc] 42)) W->(w.alloc (.cells #[.slice pa pn pc] 42)).heap.size+3<=W.heap.size->xr W fb g X s n c ay fix J v aG s' c' cG O w2->aa (fun i=>i=(w.alloc (.cells #[.slice pa pn pc] 42)).heap.size+1\/i=(w.alloc (.cells #[.slice pa pn pc] 42)).heap.size+2) w2 w3->xq w sb fb g X s n c ay fix J v aG s' c' cG O w3):=fun W w2 w3 v aG s' c' cG O k hW hT k3=>xq.of h k1 k hW hT k3
 clear h qf hn hp hJ hj hw k1 B3 az cZ;go_in;go_wp2_with fail;refine(F.o).mono ?_;rintro e w4 ⟨v,er,w3,rfl,⟨rfl,W,aG,s',c',cG,O,kW,hW,hT⟩,h3,k3⟩;have HS:=ab (HF.o W w3 w4 v aG s' c' cG O kW hW hT k3);clear F HF kW hW hT k3 h3;go_wp2_with fail;go_ret2;exact⟨v,aG,s',c',cG,O,rfl,HS.o⟩
theorem ahJ{b1:Nat}(hB:au w b1 #[BT sb 0] 38)(hS:au w sb #[BT sb 0,BT fb 0] 79)(F:Calls prog 33 #[BT fb 0] (w.setCell (GB sb 1) (.pointer none)) fun e w'=>∃v,e=.returned (.tuple #[v,GW 0])/\Q v w'):
 Calls prog 32 #[BT fb 0,BT b1 0] w fun e w'=>∃v,e=.returned (.tuple #[v,GW 0])/\Q v w':=by
 have c0:w.cell? (GB b1 0)=some (BT sb 0):=hB.cell 0;have c1:w.cell? (GB sb 1)=some (BT fb 0):=hS.cell 1;have f1:w.frozen? (GB sb 1)=false:=hS.frozen 1;have F:=ab F;clear hB hS;go_in;go_wp2_with fail;refine(F.o).mono ?_;rintro e w1 ⟨v,rfl,hQ⟩;have HQ:=ab hQ;clear hQ F;go_wp2_with fail;go_ret2;exact⟨v,rfl,HQ.o⟩
structure AR(w:World)(sb fb:Nat)(g:FM)(X:ByteArray)(s:cx)(v:Value)(aG:List (Ev×Value))(w':World):Prop where
 c_:dY w' (IS w w') v X aG
 eq:aG.map (·.1)=s.rest g.ms g.u0 g.G X
 aq:au w' sb #[BT sb 0,.pointer none] 79
 kept:aa (fun i=>i=fb\/i=sb) w w'
theorem ahm(a:Array Value)(w:World):(callFunc 32 a).run prog w=.ok (.enter 32 a) w:=by kernel_rfl
theorem AR.of(h:sQ w sb fb g X s c ay fix)(k1:aa ai w w1)(k2:aa ai w1 W)(hW:w1.heap.size+3<=W.heap.size)(hC:DY (W.setCell (GB sb 1) (.pointer none)) fb g X s v aG w2)(k3:aa (fun i=>i=w1.heap.size+1\/i=w1.heap.size+2) w2 w3):AR w sb fb g X s v aG w3:=by
 have cZ:=k1.size;have gg:=k2.size;have ri:W.heap.size<=w2.heap.size:=by have:=hC.kept.size;simpa using this
 have qi:=k3.size;have M6:fb<w.heap.size:=by obtain⟨A,hM,_⟩:=h.at_.mem;exact hM.aq.lt
 have xO:=h.aq.lt;have aB:sb≠fb:=fun e=>h.ap.1 (Or.inr (Or.inl e))
 have kW:aa ai w W:=k1.trans k2;have BW:au (W.setCell (GB sb 1) (.pointer none)) sb #[BT sb 0,.pointer none] 79:=(h.aq.kept kW (fun hx=>hx)).setCell 1 (.pointer none);have kJ:aa (fun i=>i=fb\/i=sb) w w2:=((kW.mono (S':=fun i=>i=fb\/i=sb) (fun i hx=>hx.elim)).setCell (p:=(GB sb 1)) (Or.inl (Or.inr rfl)) _).b_ hC.kept (fun i _ hx=>Or.inl hx);refine⟨(hC.c_.kept k3 (fun i hi hx=>?_)).mono (fun i hi=>?_) (fun i hi=>hi.2),hC.eq,(BW.kept hC.kept (fun e=>aB e)).kept k3 (fun hx=>by omega),kJ.b_ k3 (fun i hi hx=>by omega)⟩
 ·have:=hi.1;simp at this;omega
 ·have:=hi.1;simp at this;exact⟨by omega,by have:=hi.2;omega⟩
theorem aoH(hg:g.Ok)(h:sQ w sb fb g X s c ay fix)(qf:s.l=[]->s.mt=none)(CK:s.bu=X.size):
 Calls prog 17 #[BT sb 0] w fun e w'=>∃v aG,e=.returned (.tuple #[v,GW 0])/\AR w sb fb g X s v aG w':=by
 have WA:∀(fn:Fn) (first cap:Array Value) (w:World),(Instr.makeFunc fn first cap).run prog w=.ok (.func fn first cap) w:=fun _ _ _ _=>rfl
 have k1:aa ai w (w.alloc (.cells #[BT sb 0] 38)):=(aa.refl ai w).alloc _;have B3:=au.new w #[BT sb 0] 38;have xO:=h.aq.lt;have M6:fb<w.heap.size:=by obtain⟨A,hM,_⟩:=h.at_.mem;exact hM.aq.lt
 have cZ:(w.alloc (.cells #[BT sb 0] 38)).heap.size=w.heap.size+1:=by simp
 have F:=abY (w:=w.alloc (.cells #[BT sb 0] 38)) (sb:=sb) (fb:=fb) (N:=32) (cv:=BT w.heap.size 0) (P:=fun v er w'=>er=0/\∃W aG,aa ai (w.alloc (.cells #[BT sb 0] 38)) W/\(w.alloc (.cells #[BT sb 0] 38)).heap.size+3<=W.heap.size/\DY (W.setCell (GB sb 1) (.pointer none)) fb g X s v aG w') (h.aq.kept k1 (fun hx=>hx)) ahm
  (fun W k hW=>by
    have kS:aa (fun i=>i=sb) W (W.setCell (GB sb 1) (.pointer none)):=(aa.refl (fun i=>i=sb) W).setCell (p:=(GB sb 1)) (Or.inl rfl) _
    have Jt:jJ (W.setCell (GB sb 1) (.pointer none)) fb g X s c ay fix:=(h.at_.new (k1.trans k)).kept kS (fun i hi=>by
     have hi':i=sb:=hi;rw[hi'];exact h.ap)
    refine(ahJ (Q:=fun v w'=>∃aG,DY (W.setCell (GB sb 1) (.pointer none)) fb g X s v aG w') (B3.kept k (fun hx=>hx)) (h.aq.kept (k1.trans k) (fun hx=>hx)) ((ahL hg Jt qf CK).mono ?_)).mono ?_
    ·rintro e w' ⟨v,aG,rfl,hC⟩;exact⟨v,rfl,aG,hC⟩
    ·rintro e w' ⟨v,rfl,aG,hC⟩;obtain⟨ao,cc,hv⟩:=cw hC.c_.row;subst hv;refine⟨_,_,_,_,rfl,⟨rfl,W,aG,k,hW,hC⟩,?_⟩;have k2:aa (fun i=>i=fb\/i=sb) W w':=(kS.mono (S':=fun i=>i=fb\/i=sb) (fun i hi=>Or.inr hi)).b_ hC.kept (fun i _ hi=>Or.inl hi);refine k2.mono (fun i hi=>Or.inl ?_);omega)
 have F:=ab F;have HF:Hid (∀W w2 w3 v aG,aa ai (w.alloc (.cells #[BT sb 0] 38)) W->(w.alloc (.cells #[BT sb 0] 38)).heap.size+3<=W.heap.size->DY (W.setCell (GB sb 1) (.pointer none)) fb g X s v aG w2->aa (fun i=>i=(w.alloc (.cells #[BT sb 0] 38)).heap.size+1\/i=(w.alloc (.cells #[BT sb 0] 38)).heap.size+2) w2 w3->AR w sb fb g X s v aG w3):=fun W w2 w3 v aG k hW hC k3=>AR.of h k1 k hW hC k3
 clear h qf CK k1 B3 cZ;go_in;go_wp2_with fail;refine(F.o).mono ?_;rintro e w4 ⟨v,er,w3,rfl,⟨rfl,W,aG,kW,hW,hC⟩,h3,k3⟩;have HS:=ab (HF.o W w3 w4 v aG kW hW hC k3);clear F HF kW hW hC k3 h3;go_wp2_with fail;go_ret2;exact⟨v,aG,rfl,HS.o⟩
def Ou(c:Int)(n:Nat):Nat:=if c<0 then((-(c+1)).tmod n).toNat else(c % n).toNat
theorem anp(c:Int)(hn:0<n):Ou c n<n:=by
 unfold Ou;split
 ·have h:=afP (-(c+1)) n (by omega) (by omega);omega
 ·have h1:=Int.emod_nonneg c (show(n:Int)≠0 by omega);have h2:=Int.emod_lt_of_pos c (show(0:Int)<n by omega);omega
theorem anq(c:Int)(n:Nat)(w:World)(hn:0<n)(jZ:n<=1000000000)(h1: -9223372036854775808<=c)(h2:c<=9223372036854775807):Calls prog 19 #[GW c,GW (n:Int)] w fun e w'=>e=.returned (GW (Ou c n:Int))/\w'=w:=by
 have hz:((n:Int)==0)=false:=by simp;omega
 unfold Ou;by_cases h0:c<0
 ·rw[if_pos h0];go_in;go_wp2_with fail;go_ret;have h:=afP (-(c+1)) n (by omega) (by omega);refine⟨?_,rfl⟩;have e:(((-(c+1)).tmod n).toNat:Int)= -((c+1).tmod n):=by rw[<-Int.neg_tmod];omega
  rw[e];rfl
 ·rw[if_neg h0];have hc:0<=c:=by omega
  go_in
  go_wp2_with fail
  go_ret
  have h1:=Int.emod_nonneg c (show(n:Int)≠0 by omega);refine⟨?_,rfl⟩;have e:max (c % (n:Int)) 0=c % n:=by omega
  rw[e];rfl
theorem ahW(w:World)(s:ByteArray):(convert 9 42 (.string s)).run prog w=.ok (.slice (some (GB w.heap.size 0)) s.size (grownCap w s.size 0 5)) (Lib.bytesWorld w 5 s):=Lib.run_convert_string_bytes w _ _ _ s underlying9 underlying42 underlying5
theorem ahf(w:World)(e:TypeId)(s:ByteArray):aa ai w (Lib.bytesWorld w e s):=⟨rfl,rfl,rfl,by rw[Lib.bytesWorld_size];omega,fun k hk _=>Lib.bytesWorld_at_old w e s k hk⟩
theorem ahe(w:World)(e:TypeId)(s:ByteArray){cap:Nat}(hc:s.size<=cap):jI (Lib.bytesWorld w e s) (.slice (some (GB w.heap.size 0)) s.size cap) s:=by
 refine Or.inr ⟨w.heap.size,0,cap,rfl,hc,fun j hj=>?_⟩;rw[Ba,Lib.bytesWorld_cell w e s j hj];have hl:j<s.data.toList.length:=by simpa using hj
 rw[List.getD,Ae hl,Utf8W.get!_of_lt s j hj];rfl
theorem ais{T T':Nat->iT}{b:Nat->Int}{op:Bool}(h:∀i,i<=n->T i=T' i):∀(k i:Nat) (told:Int),kt T n b op k i told=kt T' n b op k i told:=by
 intro k;induction k with
 |zero=>intro i told;rfl
 |succ k ih=>
  intro i told;unfold kt;by_cases hn:n<i
  ·rw[if_pos hn,if_pos hn]
  ·rw[if_neg hn,if_neg hn,h i (by omega)]
   cases T' i with
   |none=>exact ih _ _
   |some v=>
    obtain⟨j,gs⟩:=v;simp only;rw[ih,ih,ih]
theorem SD(h:LQ p X g):cx.new.rest g.ms g.u0 g.G X=lV p X:=by
 have hb:(aQ X).aZ=aR X:=by funext i;unfold CX.aZ aQ aR;simp
 have kC:oc (eV g.ms (aQ X) g.u0 g.G) (aJ X).length:=wV h.ok.fJ (aQ X) h.ok.u0 g.G;have ajA:oc (IJ (lM p) (gM p) (iA X)) (aJ X).length:=fun i j gs hi e=>kC i j gs hi (by rw[h.iI i hi];exact e)
 have e1:=abu (s:=X) ajA;unfold cx.rest cx.new lV;rw[<-e1];show(e_ (eV g.ms (aQ X) g.u0 g.G) (aJ X).length (aR X) false 0 (-1)).1=(e_ (IJ (lM p) (gM p) (iA X)) (aJ X).length (aQ X).aZ false 0 (-1)).1
 rw[hb];unfold e_;rw[ais h.iI]
def KX(p X:ByteArray):Prop:=(∀e∈lV p X,e.gs.length=2*gM p)/\gM p<=100000/\(lV p X).length<=100000000
theorem LQ.gs(h:LQ p X g)(hX:X.size<=10000000):KX p X:=by
 have hr:=OD X;refine⟨fun e he=>?_,by rw[<-h.G];exact h.ok.G,by rw[<-SD h];have:=Yj g.ms g.u0 g.G X cx.new;omega⟩;rw[<-SD h]at he;unfold cx.rest at he;refine U1 (P:=fun e=>e.gs.length=2*gM p) (wV h.ok.fJ (aQ X) h.ok.u0 g.G) (fun i q gq hi hq=>?_) _ _ _ e he;have:=DV h.ok.fJ (aQ X) h.ok.u0 hi _ _ _ hq;rw[this.2.2,<-h.G];simp[gR]
structure qG(w w0:World)(sb fb:Nat)(g:FM)(X:ByteArray)(fix:Nat->Prop)(R0:List Ev)(J:cx->Prop)(s:cx)(c:FC)(ay O:Nat->Prop)(v:Value)(aG:List (Ev×Value))(wr:World):Prop where
 at_:sQ wr sb fb g X s c ay fix
 c_:dY wr O v X aG
 ap:∀i,O i->¬FO fb c ay i/\i≠sb/\w0.heap.size<=i
 ay:∀i,FO fb c ay i\/i=sb->w.heap.size<=i
 kept:aa ai w wr
 rest:R0=aG.map (·.1)++s.rest g.ms g.u0 g.G X
 fO:s.l=[]->s.mt=none
 wn:c.wn=0
 fx:∀i,fix i\/g.cP i->i<w0.heap.size
 sz:w.heap.size<=w0.heap.size/\w0.heap.size<=wr.heap.size
 j:J s
theorem qG.new(h:qG w w0 sb fb g X fix R0 J s c ay O v aG wr)(k:aa ai wr w'):qG w w0 sb fb g X fix R0 J s c ay O v aG w':=
 ⟨h.at_.new k,h.c_.new k,h.ap,h.ay,h.kept.trans k,h.rest,h.fO,h.wn,h.fx,⟨h.sz.1,Bh h.sz.2 k.size⟩,h.j⟩
theorem qG.bu(h:qG w w0 sb fb g X fix R0 J s c ay O v aG wr)(hF:xq wr sb fb g X s n c ay fix J v2 dh s' c' cG O2 w2):
 dY w2 O v X aG/\(∀i,O i->¬FO fb c' cG i/\i≠sb/\w0.heap.size<=i)/\(∀i,O2 i->¬FO fb c' cG i/\i≠sb/\w0.heap.size<=i)/\(∀i,FO fb c' cG i\/i=sb->w.heap.size<=i)/\aa ai w w2/\R0=(aG++dh).map (·.1)++s'.rest g.ms g.u0 g.G X/\c'.wn=0/\w0.heap.size<=w2.heap.size:=by
 have hs:=hF.dt.kept.size;have xO:=h.at_.aq.lt;have hws:=h.kept.size;refine⟨h.c_.kept hF.dt.kept (fun i hi=>(h.ap i hi).1),fun i hi=>⟨fun hf=>?_,(h.ap i hi).2⟩,fun i hi=>⟨(hF.ap i hi).2,?_,?_⟩,fun i hi=>?_,h.kept.b_ hF.dt.kept (fun i hi hx=>by have:=h.ay i (Or.inl hx);omega),?_,by rw[hF.wn];exact h.wn,by have:=h.sz;omega⟩
 ·exact(hF.dt.aq i hf).elim (h.ap i hi).1 (fun hx=>by have:=h.c_.lt i hi;omega)
 ·have:=(hF.ap i hi).1;omega
 ·have:=(hF.ap i hi).1;have:=h.sz;omega
 ·rcases hi with hi|hi
  ·exact(hF.dt.aq i hi).elim (fun hx=>h.ay i (Or.inl hx)) (fun hx=>by omega)
  ·exact h.ay i (Or.inr hi)
 ·rw[h.rest,hF.rest,Ca,Bu]
theorem qG.Qv(h:qG w w0 sb fb g X fix R0 J s c ay O v aG wr)(hC:AR wr sb fb g X s v2 dh w2):
 dY w2 O v X aG/\aa ai w w2/\R0=(aG++dh).map (·.1)/\∀i,O i->w.heap.size<=i:=by
 refine⟨h.c_.kept hC.kept (fun i hi hx=>?_),h.kept.b_ hC.kept (fun i hi hx=>?_),?_,fun i hi=>by have:=(h.ap i hi).2.2;have:=h.sz;omega⟩
 ·rcases hx with hx|hx
  ·exact(h.ap i hi).1 (Or.inr (Or.inl hx))
  ·exact(h.ap i hi).2.1 hx
 ·have:w.heap.size<=i:=hx.elim (fun e=>h.ay i (Or.inl (Or.inr (Or.inl e)))) (fun e=>h.ay i (Or.inr e));omega
 ·rw[h.rest,Ca,hC.eq]
def db:List ByteArray->ByteArray
 | []=>⟨#[]⟩
 |a::l=>a++db l
theorem Qj(a b:ByteArray):(a++b).data=a.data++b.data:=ByteArray.data_append
theorem agK(a:ByteArray):a++⟨#[]⟩=a:=Dj (by rw[Qj];simp)
theorem agL(a:ByteArray):(⟨#[]⟩:ByteArray)++a=a:=Dj (by rw[Qj];simp)
theorem UP:∀(l m:List ByteArray),db (l++m)=db l++db m
 | [],m=>(agL _).symm
 |a::l,m=>by show a++db (l++m)=a++db l++db m;rw[UP l m,ByteArray.append_assoc]
theorem agJ(A B C:ByteArray):(A++(B++C)).extract A.size (A.size+B.size)=B:=by
 apply Dj
 rw[ByteArray.data_extract,Qj,Qj];have e1:A.size=A.data.size:=rfl;have e2:B.size=B.data.size:=rfl;rw[e1,e2];apply Array.ext';have h1:A.data.toList.drop A.size=[]:=Eg (by rw[Gb];exact Ab _);have h2:B.data.toList.take B.size=B.data.toList:=Bz (by rw[Gb];exact Ab _);simp[h1,h2]
theorem aaX(l:List ByteArray)(i:Nat)(h:i<l.length):db l=db (l.take i)++(l[i]++db (l.drop (i+1))):=by
 show _=_++db (l[i]::l.drop (i+1))
 rw[<-UP,<-Bw h,Ds]
theorem aaY(l:List ByteArray)(i:Nat)(h:i<l.length):db (l.take (i+1))=db (l.take i)++l[i]:=by
 rw[Ck h,UP];show _++(l[i]++⟨#[]⟩)=_
 rw[agK]
structure tY(l:List Pc)(P:List ByteArray)(kN cN:Int):Prop where
 le:P.length<=l.length
 part:∀i (h:i<P.length),l.getD i pN=⟨P[i],0,0⟩
 eQ:l.getD P.length pN=⟨⟨#[]⟩,kN,cN⟩
 kind:kN=1\/kN=2
theorem tY.plain(P:List ByteArray):tY (P.map fun d=>⟨d,0,0⟩) P 1 0:=⟨by simp,fun i h=>by simp[Af,Ae h],by simp[Af];rfl,Or.inl rfl⟩
theorem tY.ahc(P:List ByteArray)(cN:Int)(q:Pc):tY ((P.map fun d=>⟨d,0,0⟩)++[⟨⟨#[]⟩,2,cN⟩,q]) P 2 cN:=⟨by simp,fun i h=>by simp[Af,Ay,h],by simp[Af],Or.inr rfl⟩
theorem tY.at{l:List Pc}{kN cN:Int}(h:tY l P kN cN)(hi:i<=P.length):
 (l.getD i pN).d=(db P).extract (db (P.take i)).size ((db (P.take i)).size+(l.getD i pN).d.size)/\(db (P.take i)).size+(l.getD i pN).d.size<=(db P).size/\
 ((i<P.length/\(l.getD i pN).k=0/\(db (P.take i)).size+(l.getD i pN).d.size=(db (P.take (i+1))).size)\/(i=P.length/\(l.getD i pN).k=kN/\(l.getD i pN).c=cN/\(db (P.take i)).size+(l.getD i pN).d.size=(db P).size)):=by
 by_cases az:i<P.length
 ·rw[h.part i az];have e:=aaX P i az;refine⟨?_,?_,Or.inl ⟨az,rfl,?_⟩⟩
  ·rw[e];exact(agJ _ _ _).symm
  ·rw[e,Dc,Dc];show _+P[i].size<=_;omega
  ·rw[aaY P i az,Dc]
 ·have hN:i=P.length:=by omega
  subst hN;rw[h.eQ,Bj];have e0:(⟨#[]⟩:ByteArray).size=0:=rfl;refine⟨?_,Ab _,Or.inr ⟨rfl,rfl,rfl,rfl⟩⟩;show _=(db P).extract (db P).size ((db P).size+(⟨#[]⟩:ByteArray).size)
  rw[e0];apply Dj;rw[ByteArray.data_extract];simp
def LW(w:World)(v:Value)(P:List ByteArray):Prop:=(v=.slice none 0 0/\P=[])\/∃(a:Addr) (c:Nat),v=.slice (some a) P.length c/\∀i (h:i<P.length),w.cell? (a.add i)=some (.string P[i])
theorem LW.kept(h:LW w v P)(k:aa ai w w'):LW w' v P:=by
 rcases h with h|⟨a,c,h1,h2⟩
 ·exact Or.inl h
 ·exact Or.inr ⟨a,c,h1,fun i hi=>(k.cell (p:=a.add i) (Bk _ _ (h2 i hi)) (fun h=>h)).trans (h2 i hi)⟩
theorem qG.lr{T:Nat->Prop}(h:qG w w0 sb fb g X fix R0 J s c ay O v aG wr)(k:aa T wr w')(hT:∀i,T i->¬FO fb c ay i/\i≠sb/\w0.heap.size<=i/\¬O i):qG w w0 sb fb g X fix R0 J s c ay O v aG w':=
 ⟨h.at_.kept k (fun i hi=>⟨(hT i hi).2.1,(hT i hi).1,fun hf=>by have:=h.fx i (Or.inl hf);have:=(hT i hi).2.2.1;omega,fun hf=>by have:=h.fx i (Or.inr hf);have:=(hT i hi).2.2.1;omega⟩),h.c_.kept k (fun i ho ht=>(hT i ht).2.2.2 ho),h.ap,h.ay,h.kept.b_ k (fun i hi ht=>by have:=(hT i ht).2.2.1;have:=h.sz;omega),h.rest,h.fO,h.wn,h.fx,⟨h.sz.1,Bh h.sz.2 k.size⟩,h.j⟩
theorem qG.told{rd cd:Int}(h:qG w w0 sb fb g X fix R0 J s c ay O v aG wr)(hF:xq wr sb fb g X s n c ay fix J v2 dh s' c' cG O2 w2)
 (hA:n_ w2 tb rd cd most X O O2 (aG++dh) v3 O' w3)(ht:¬FO fb c' cG tb/\tb≠sb/\w0.heap.size<=tb):qG w w0 sb fb g X fix R0 J s' c' cG O' v3 (aG++dh) w3:=by
 obtain⟨e1,e2,e3,e4,e5,e6,e7,e8⟩:=h.bu hF;have az:∀i,FO fb c' cG i->i<w2.heap.size:=fun i hi=>by obtain⟨A,hM,_⟩:=hF.at_.at_.mem;exact hM.lt (Or.inl hi)
 have aq_:=hF.at_.aq.lt
 have key:∀i,(i=tb\/O i)->¬FO fb c' cG i/\i≠sb/\w0.heap.size<=i:=fun i hi=>by
  rcases hi with rfl|hi
  ·exact ht
  ·exact e2 i hi
 refine⟨hF.at_.kept hA.kept (fun i hi=>?_),hA.c_,fun i hi=>?_,e4,e5.b_ hA.kept (fun i hi hx=>?_),e6,hF.fO,e7,h.fx,⟨h.sz.1,Bh e8 hA.kept.size⟩,hF.j⟩
 ·have:=key i hi;exact⟨this.2.1,this.1,fun hf=>by have:=h.fx i (Or.inl hf);omega,fun hf=>by have:=h.fx i (Or.inr hf);omega⟩
 ·rcases hA.new i hi with hi|hi|hi
  ·exact e2 i hi
  ·exact e3 i hi
  ·exact⟨fun hf=>by have:=az i hf;omega,by omega,by omega⟩
 ·have:=(key i hx).2.2;have:=h.sz;omega
structure mW(w w0:World)(sb fb tb rb xb:Nat)(g:FM)(P:List ByteArray)(fix:Nat->Prop)(R0:List Ev)(pv:Value)(most:Int)(i j:Nat)(s:cx)(c:FC)(ay O:Nat->Prop)(v:Value)(aG:List (Ev×Value))(wr:World):Prop where
 sm:qG w w0 sb fb g (db P) fix R0 (fun _=>True) s c ay O v aG wr
 bt:au wr tb #[v,GW 0,GW 0,GW most] 89
 br:au wr rb #[pv,GW (j:Int)] 87
 aw:w0.heap.size<=tb/\w0.heap.size<=rb/\tb≠rb/\tb≠sb/\rb≠sb
 ao:¬O tb/\¬O rb
 af:¬FO fb c ay tb/\¬FO fb c ay rb
 bu:s.bu=(db (P.take i)).size
 bN:most<0\/(aG.length:Int)<most
 bx:au wr xb #[BT rb 0] 85
 ax:(w0.heap.size<=xb/\xb≠tb/\xb≠rb/\xb≠sb)/\¬O xb/\¬FO fb c ay xb
theorem mW.anN{j':Nat}(h:mW w w0 sb fb tb rb xb g P fix R0 pv most i j s c ay O v aG wr)(k:aa (fun x=>x=rb) wr w')(hb:au w' rb #[pv,GW (j':Int)] 87):mW w w0 sb fb tb rb xb g P fix R0 pv most i j' s c ay O v aG w':=
 ⟨h.sm.lr k (fun x hx=>by
   have xS:x=rb:=hx;subst xS;exact⟨h.af.2,h.aw.2.2.2.2,h.aw.2.1,h.ao.2⟩),h.bt.kept k (fun e=>h.aw.2.2.1 e),hb,h.aw,h.ao,h.af,h.bu,h.bN,h.bx.kept k (fun e=>h.ax.1.2.2.1 e),h.ax⟩
theorem mW.new(h:mW w w0 sb fb tb rb xb g P fix R0 pv most i j s c ay O v aG wr)(k:aa ai wr w'):mW w w0 sb fb tb rb xb g P fix R0 pv most i j s c ay O v aG w':=
 ⟨h.sm.new k,h.bt.kept k (fun e=>e),h.br.kept k (fun e=>e),h.aw,h.ao,h.af,h.bu,h.bN,h.bx.kept k (fun e=>e),h.ax⟩
structure Un(w:World)(tb rb xb:Nat)(X:ByteArray)(R0 rest:List Ev)(pv:Value)(most cd:Int)(j:Nat)(v:Value)(aG:List (Ev×Value))(O:Nat->Prop)(w':World):Prop where
 kept:aa ai w w'
 bt:au w' tb #[v,GW 0,GW cd,GW most] 89
 br:au w' rb #[pv,GW (j:Int)] 87
 c_:dY w' O v X aG
 rest:R0=aG.map (·.1)++rest
 bx:au w' xb #[BT rb 0] 85
 ao:(∀i,O i->w.heap.size<=i)/\¬O rb
theorem mW.U5(h:mW w w0 sb fb tb rb xb g P fix R0 pv most i j s c ay O v aG wr)(hF:xq wr sb fb g (db P) s n c ay fix (fun _=>True) v2 dh s' c' cG O2 w2):
 au w2 tb #[v,GW 0,GW 0,GW most] 89/\au w2 rb #[pv,GW (j:Int)] 87/\dY w2 O v (db P) aG/\¬O2 tb/\¬O2 rb/\(¬FO fb c' cG tb/\¬FO fb c' cG rb)/\aa ai w w2/\R0=(aG++dh).map (·.1)++s'.rest g.ms g.u0 g.G (db P)/\au w2 xb #[BT rb 0] 85/\¬O2 xb/\¬FO fb c' cG xb:=by
 obtain⟨e1,e2,e3,e4,e5,e6,e7,e8⟩:=h.sm.bu hF;have l1:=h.bt.lt;have l2:=h.br.lt;exact⟨h.bt.kept hF.dt.kept h.af.1,h.br.kept hF.dt.kept h.af.2,e1,fun hx=>by have:=(hF.ap _ hx).1;omega,fun hx=>by have:=(hF.ap _ hx).1;omega,⟨hF.dt.apart l1 h.af.1,hF.dt.apart l2 h.af.2⟩,e5,e6,h.bx.kept hF.dt.kept h.ax.2.2,fun hx=>by have:=(hF.ap _ hx).1;have:=h.bx.lt;omega,hF.dt.apart h.bx.lt h.ax.2.2⟩
theorem mW.stop(h:mW w w0 sb fb tb rb xb g P fix R0 pv most i j s c ay O v aG wr)(hF:xq wr sb fb g (db P) s n c ay fix (fun _=>True) v2 dh s' c' cG O2 w2)
 (hA:n_ w2 tb 0 0 most (db P) O O2 (aG++dh.take k) v3 O' w3):∃rest,Un w tb rb xb (db P) R0 rest pv most 0 j v3 (aG++dh.take k) O' w3:=by
 obtain⟨f1,f2,f3,f4,f5,f6,f7,f8,f9,fa,fc⟩:=h.U5 hF;refine⟨(dh.drop k).map (·.1)++s'.rest g.ms g.u0 g.G (db P),f7.b_ hA.kept (fun x hx hy=>?_),hA.aq,f2.kept hA.kept (fun hx=>?_),hA.c_,?_,f9.kept hA.kept (fun hx=>hx.elim h.ax.1.2.1 h.ax.2.1),fun x hx=>?_,fun hx=>?_⟩
 ·have:=h.sm.sz;rcases hy with rfl|hy
  ·have:=h.aw.1;omega
  ·have:=(h.sm.ap x hy).2.2;omega
 ·rcases hx with hx|hx
  ·exact h.aw.2.2.1 hx.symm
  ·exact h.ao.2 hx
 ·rw[f8];conv=>lhs;rw[<-Ds k dh]
  simp only[Ca,Bu]
 ·have:=h.sm.sz;rcases hA.new x hx with e|e|e
  ·have:=(h.sm.ap x e).2.2;omega
  ·have:=(hF.ap x e).1;omega
  ·have:=f7.size;omega
 ·have:=f2.lt;rcases hA.new _ hx with e|e|e
  ·exact h.ao.2 e
  ·exact f5 e
  ·omega
theorem mW.on{i':Nat}(h:mW w w0 sb fb tb rb xb g P fix R0 pv most i j s c ay O v aG wr)(hF:xq wr sb fb g (db P) s n c ay fix (fun _=>True) v2 dh s' c' cG O2 w2)
 (hA:n_ w2 tb 0 0 most (db P) O O2 (aG++dh) v3 O' w3)(hi:s.bu+n=(db (P.take i')).size)(hm:most<0\/((aG++dh).length:Int)<most):mW w w0 sb fb tb rb xb g P fix R0 pv most i' j s' c' cG O' v3 (aG++dh) w3:=by
 obtain⟨f1,f2,f3,f4,f5,f6,f7,f8,f9,fa,fc⟩:=h.U5 hF;have l1:=f1.lt;have l2:=f2.lt
 have hn:∀x,x<w2.heap.size->¬O x->¬O2 x->¬O' x:=fun x hx h1 h2 h3=>by
  rcases hA.new x h3 with e|e|e
  ·exact h1 e
  ·exact h2 e
  ·omega
 refine⟨h.sm.told hF hA ⟨f6.1,h.aw.2.2.2.1,h.aw.1⟩,hA.aq,f2.kept hA.kept (fun hx=>?_),h.aw,⟨hn _ l1 h.ao.1 f4,hn _ l2 h.ao.2 f5⟩,f6,by rw[hF.bu];exact hi,hm,f9.kept hA.kept (fun hx=>hx.elim h.ax.1.2.1 h.ax.2.1),h.ax.1,hn _ f9.lt h.ax.2.1 fa,fc⟩;rcases hx with hx|hx
 ·exact h.aw.2.2.1 hx.symm
 ·exact h.ao.2 hx
theorem mW.afm(h:mW w w0 sb fb tb rb xb g P fix R0 pv most i j s c ay O v aG wr)(hC:AR wr sb fb g (db P) s v2 dh w2):
 au w2 tb #[v,GW 0,GW 0,GW most] 89/\au w2 rb #[pv,GW (j:Int)] 87/\dY w2 O v (db P) aG/\¬IS wr w2 tb/\aa ai w w2/\R0=(aG++dh).map (·.1)/\au w2 xb #[BT rb 0] 85:=by
 obtain⟨e1,e2,e3,e4⟩:=h.sm.Qv hC;have l1:=h.bt.lt;have key:∀x,x≠sb->¬FO fb c ay x->¬(x=fb\/x=sb):=fun x h1 h2 h3=>h3.elim (fun e=>h2 (Or.inr (Or.inl e))) h1
 exact⟨h.bt.kept hC.kept (key _ h.aw.2.2.2.1 h.af.1),h.br.kept hC.kept (key _ h.aw.2.2.2.2 h.af.2),e1,fun hx=>by have:=hx.1;omega,e2,e3,h.bx.kept hC.kept (key _ h.ax.1.2.2.2 h.ax.2.2)⟩
theorem mW.end_(h:mW w w0 sb fb tb rb xb g P fix R0 pv most i j s c ay O v aG wr)(hC:AR wr sb fb g (db P) s v2 dh w2)
 (hA:n_ w2 tb 0 0 most (db P) O (IS wr w2) (aG++dh.take k) v3 O' w3):Un w tb rb xb (db P) R0 ((dh.drop k).map (·.1)) pv most 0 j v3 (aG++dh.take k) O' w3:=by
 obtain⟨f1,f2,f3,f4,f5,f6,f7⟩:=h.afm hC;refine⟨f5.b_ hA.kept (fun x hx hy=>?_),hA.aq,f2.kept hA.kept (fun hx=>?_),hA.c_,?_,f7.kept hA.kept (fun hx=>hx.elim h.ax.1.2.1 h.ax.2.1),fun x hx=>?_,fun hx=>?_⟩
 ·have:=h.sm.sz;rcases hy with rfl|hy
  ·have:=h.aw.1;omega
  ·have:=(h.sm.ap x hy).2.2;omega
 ·rcases hx with hx|hx
  ·exact h.aw.2.2.1 hx.symm
  ·exact h.ao.2 hx
 ·rw[f6];conv=>lhs;rw[<-Ds k dh]
  simp only[Ca,Bu]
 ·have:=h.sm.sz;rcases hA.new x hx with e|e|e
  ·have:=(h.sm.ap x e).2.2;omega
  ·have:=e.1;omega
  ·have:=f5.size;omega
 ·have:=f2.lt;have:=h.br.lt;rcases hA.new _ hx with e|e|e
  ·exact h.ao.2 e
  ·have:=e.1;omega
  ·omega
open Go.ChangeShapes Go.WideShapes Go.ChangeAt
theorem Tryz.Qu:prog.cellsOf 9=1:=by kernel_rfl
theorem aaO:∀(P:List ByteArray),(db P).size+P.length<=Rows.uptoBulkAll (P.map fun s=>DataW.lit (H:=H) (.string s.data.toList))
 | []=>Al _
 |a::P=>by
  have ih:=aaO P;have e:a.data.toList.length=a.size:=by rw[Gb];rfl
  show(a++db P).size+(P.length+1)<=Rows.uptoBulk (DataW.lit (H:=H) (.string a.data.toList))+Rows.uptoBulkAll (P.map fun s=>DataW.lit (H:=H) (.string s.data.toList))
  rw[Dc];simp only[Rows.uptoBulk];omega
theorem amp{enc:TypeId×Value->H}{d:DataW H}{p:List MemPlace}{base:Nat}(hv:Value.okWide prog W .any base 48 v)(h:DataW.Trod enc prog W 0 (fun _=>true) true 48 v d p):
 ∃P,LW W v P/\(db P).size+P.length<=Rows.uptoBulk d/\∀W',aa ai W W'->∀sp:Nat->Bool,(∀q∈p,sp q.block=true)->DataW.Trod enc prog W' 0 sp true 48 v d p:=by
 obtain⟨a0,Iq,aqi,rfl⟩:=okWide_slice underlying48 hv;obtain⟨fuel,hf⟩:=h;rcases Deep.open_strs underlying48 underlying9 Tryz.Qu hf with⟨gV,hx⟩|⟨a,len,cap,m,Sx,gV,hb,hl,hm,zo,hx,oD⟩
 ·simp[Value.cells]at gV
  obtain⟨rfl,rfl,rfl⟩:=gV;simp only[Cp]at hx;obtain⟨rfl,rfl⟩:=hx;exact⟨[],Or.inl ⟨rfl,rfl⟩,Al _,fun W' _ sp _=>shut_slice_nil underlying48⟩
 ·simp[Value.cells]at gV
  obtain⟨rfl,rfl,rfl⟩:=gV;simp only[Cp]at hx;obtain⟨rfl,rfl⟩:=hx;simp only[if_true]at zo;subst zo;have hP:(List.range Iq).map (fun i=>DataW.lit (H:=H) (.string (Sx i).data.toList))=((List.range Iq).map Sx).map (fun s=>DataW.lit (H:=H) (.string s.data.toList)):=by rw[Fl];rfl
  have dc:((List.range Iq).map Sx).length=Iq:=by simp
  refine⟨(List.range Iq).map Sx,Or.inr ⟨a,m,by rw[dc],fun i hi=>?_⟩,?_,fun W' k sp JY=>?_⟩
  ·rw[dc]at hi;have:=(oD i (by omega)).1;simpa using this
  ·have:=aaO (H:=H) ((List.range Iq).map Sx);rw[<-hP]at this;simp only[Rows.uptoBulk];omega
  ·have GQ:∀i,i<m->W'.cell? (a.add i)=some (.string (Sx i)):=fun i hi=>(k.cell (p:=a.add i) (Bk _ _ (oD i hi).1) (fun h=>h)).trans (oD i hi).1
   have each:∀i,i<m->∃cs n,W'.cells? 0 (a.add (i*prog.cellsOf 9)) (prog.cellsOf 9)=some cs/\DataW.trod enc prog W' 0 sp true n 9 cs=some (.lit (.string (Sx i).data.toList),[]):=fun i hi=>by
    obtain⟨n,hn⟩:=Deep.shut_string_cell (enc:=enc) (P:=prog) (w:=W') (base:=0) (spare:=sp) (held:=true) underlying9 (oD i hi).2;refine⟨[.string (Sx i)],n,?_,hn⟩;rw[Tryz.Qu,Fg];exact cells?_one (Al _) (GQ i hi)
   by_cases hs:sp a.block=true
   ·have:=Deep.shut_slice_whole_cells (enc:=enc) (w:=W') (base:=0) (spare:=sp) (held:=true) (a:=a) underlying48 (Al _) hl hm hs (fun i=>.lit (.string (Sx i).data.toList)) (fun _=>[]) each;rwa[Tryz.Qu,Fg,Deep.flatMap_nils,D3]at this
   ·have hz:m=0:=by
     apply C8
     intro aB;exact hs (JY (.cell a.block (a.off+0)) (by unfold MemPlace.row;exact Be.2 ⟨0,Eu.2 (by omega),rfl⟩))
    subst hz;have dm:Iq=0:=(by omega);subst dm;have:=Deep.shut_slice_cells (enc:=enc) (w:=W') (base:=0) (spare:=sp) (held:=true) (a:=a) underlying48 (Al _) hl hm (by simpa using hs) (fun i=>.lit (.string (Sx i).data.toList)) (fun _=>[]) (fun i hi=>by omega);rwa[Tryz.Qu,Fg,Deep.flatMap_nils,D3]at this
theorem ai1(g:FM)(X:ByteArray):Pd g X (fun _=>True):=⟨fun _ _ _ _ _ _ _ _=>trivial,fun _ _ _ _ _ _ _=>trivial,fun _ _ _ _=>trivial⟩
