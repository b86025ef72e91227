/- Package trawl's  -/
import Derived.Test.YtpdnofhackjfdaaGreatDoorP44
set_option linter.all false
set_option maxRecDepth 100000
set_option maxHeartbeats 4000000
namespace Go.Proofs.YtpdnofhackjfdaaGreatDoor
open Go.Proofs.Tryz
open Go.RowKit Go.Maps
variable {X p t:ByteArray} {c c':FC} {g:FM} {s s':bR} {J:bR->Prop} {A:Int} {aT iY:List (Ev×Value)} {R0:List Ev} {a:List UInt8} {T fb i n sb:Nat} {O O2 fix au cF:Nat->Prop} {pv v v2 v3:Value} {Q:Value->World->Prop} {W w w' w0 w1 w2 w3 wr:World}
theorem ahO{b3:Nat}(hB:aq w b3 #[pv] 42)(F:Calls prog 28 #[.pointer (some ⟨fb,0,none⟩),pv] w fun e w'=>∃v,e=.returned (.tuple #[v,.int .i64 0])/\Q v w'):
 Calls prog 27 #[.pointer (some ⟨fb,0,none⟩),.pointer (some ⟨b3,0,none⟩)] w fun e w'=>∃v,e=.returned (.tuple #[v,.int .i64 0])/\Q v w':=by
 have c0:w.cell? ⟨b3,0,none⟩=some pv:=hB.cell 0;have F:=ab F;clear hB;go_in;go_wp2_with fail;refine(F.o).mono ?_;rintro e w1 ⟨v,rfl,hQ⟩;have HQ:=ab hQ;clear hQ F;go_wp2_with fail;go_ret2;exact⟨v,rfl,HQ.o⟩
structure su(w:World)(sb fb:Nat)(g:FM)(X:ByteArray)(s:bR)(n:Nat)(c:FC)(au fix:Nat->Prop)(J:bR->Prop)(v:Value)(aT:List (Ev×Value))(s':bR)(c':FC)(cF O:Nat->Prop)(w':World):Prop where
 at_:ri w' sb fb g X s' c' cF fix
 cO:gj w' O v X aT
 ap:∀i,O i->w.heap.size<=i/\¬FO fb c' cF i
 dA:cH (FO fb c au) (FO fb c' cF) w w'
 rest:s.rest g.ms g.u0 g.G X=aT.map (·.1)++s'.rest g.ms g.u0 g.G X
 aW:s'.aW=s.aW+n
 fA:s'.l=[]->s'.mt=none
 wQ:yj X s'.i s'.l=aK X s'.f
 full:sJ (X.extract (bd X s'.i) s'.aW)=false
 wn:c'.wn=c.wn
 j:J s'
theorem agy(a:Array Value)(w:World):(callFunc 27 a).run prog w=.ok (.enter 27 a) w:=by kernel_rfl
theorem su.of(h:ri w sb fb g X s c au fix)(k1:aa af w w1)(k2:aa af w1 W)(hW:w1.heap.size+3<=W.heap.size)(hT:wL W fb g X s n c au fix J v aT s' c' cF O w2)(k3:aa (fun i=>i=w1.heap.size+1\/i=w1.heap.size+2) w2 w3):su w sb fb g X s n c au fix J v aT s' c' cF O w3:=by
 have cU:=k1.size;have gg:=k2.size;have rL:=hT.dA.kept.size;have aw:∀i,FO fb c au i\/fix i\/g.cM i->i<w.heap.size:=fun i hi=>by obtain⟨A,hM,_⟩:=h.at_.mem;exact hM.lt hi
 have Jl:=h.aj.lt;have kW:aa af w W:=k1.trans k2
 have hS:∀i,(i=w1.heap.size+1\/i=w1.heap.size+2)->¬FO fb c' cF i/\¬fix i/\¬g.cM i:=fun i hi=>by
  refine⟨fun hf=>?_,fun hf=>?_,fun hf=>?_⟩
  ·rcases hT.dA.aj i hf with hx|hx
   ·have:=aw i (Or.inl hx);omega
   ·omega
  ·have:=aw i (Or.inr (Or.inl hf));omega
  ·have:=aw i (Or.inr (Or.inr hf));omega
 have kF:aa (FO fb c au) w w2:=(kW.mono (S':=FO fb c au) (fun i hx=>hx.elim)).trans hT.dA.kept;refine⟨⟨?_,hT.at_.kept k3 hS,fun hf=>?_,h.ap.2.1,h.ap.2.2⟩,hT.cO.kept k3 (fun i hi hx=>?_),fun i hi=>⟨by have:=(hT.ap i hi).1;omega,(hT.ap i hi).2⟩,⟨kF.bZ k3 (fun i hi hx=>by omega),fun i hf=>?_⟩,hT.rest,hT.aW,hT.fA,hT.wQ,hT.full,hT.wn,hT.j⟩
 ·exact(h.aj.kept kF h.ap.1).kept k3 (fun hx=>by omega)
 ·rcases hT.dA.aj sb hf with hx|hx
  ·exact h.ap.1 hx
  ·omega
 ·have:=(hT.ap i hi).1;omega
 ·rcases hT.dA.aj i hf with hx|hx
  ·exact Or.inl hx
  ·exact Or.inr (by omega)
theorem an7(hg:g.Ok)(h:ri w sb fb g X s c au fix)(pN:s.l=[]->s.mt=none)(hn:s.aW+n<=X.size)(hp:jN w pv (X.extract s.aW (s.aW+n)))(hJ:Kd g X J)(hj:J (s.eG n))(hw:c.wn=0):
 Calls prog 15 #[.pointer (some ⟨sb,0,none⟩),pv] w fun e w'=>∃v aT s' c' cF O,e=.returned (.tuple #[v,.int .i64 0])/\su w sb fb g X s n c au fix J v aT s' c' cF O w':=by
 have Vo:∀(fn:Fn) (first cap:Array Value) (w:World),(Instr.makeFunc fn first cap).run prog w=.ok (.func fn first cap) w:=fun _ _ _ _=>rfl
 obtain⟨pa,pn,pc,hpv⟩:∃pa pn pc,pv=.slice pa pn pc:=by
  rcases hp with⟨e,_⟩|⟨b,off,cap,e,_⟩
  ·exact⟨_,_,_,e⟩
  ·exact⟨_,_,_,e⟩
 subst hpv;have k1:aa af w (w.alloc (.cells #[.slice pa pn pc] 42)):=(aa.refl af w).alloc _;have B3:=aq.new w #[.slice pa pn pc] 42;have aw:∀i,FO fb c au i\/fix i\/g.cM i->i<w.heap.size:=fun i hi=>by obtain⟨A,hM,_⟩:=h.at_.mem;exact hM.lt hi
 have cU:(w.alloc (.cells #[.slice pa pn pc] 42)).heap.size=w.heap.size+1:=by simp
 have F:=abe (w:=w.alloc (.cells #[.slice pa pn pc] 42)) (sb:=sb) (fb:=fb) (N:=27) (cv:=.pointer (some ⟨w.heap.size,0,none⟩)) (P:=fun v er w'=>er=0/\∃W aT s' c' cF O,aa af (w.alloc (.cells #[.slice pa pn pc] 42)) W/\(w.alloc (.cells #[.slice pa pn pc] 42)).heap.size+3<=W.heap.size/\wL W fb g X s n c au fix J v aT s' c' cF O w') (h.aj.kept k1 (fun hx=>hx)) agy
  (fun W k hW=>by
    refine(ahO (Q:=fun v w'=>∃aT s' c' cF O,wL W fb g X s n c au fix J v aT s' c' cF O w') (B3.kept k (fun hx=>hx)) ((ahP hg (h.at_.new (k1.trans k)) pN hn (hp.new (k1.trans k)) hJ hj hw).mono ?_)).mono ?_
    ·rintro e w' ⟨v,aT,s',c',cF,O,rfl,hT⟩;exact⟨v,rfl,aT,s',c',cF,O,hT⟩
    ·rintro e w' ⟨v,rfl,aT,s',c',cF,O,hT⟩;obtain⟨ao,cc,hv⟩:=cK hT.cO.row;subst hv;refine⟨_,_,_,_,rfl,⟨rfl,W,aT,s',c',cF,O,k,hW,hT⟩,hT.dA.kept.mono (fun i hi=>Or.inl ?_)⟩;have:=aw i (Or.inl hi);omega)
 have F:=ab F;have HF:Hid (∀W w2 w3 v aT s' c' cF O,aa af (w.alloc (.cells #[.slice pa pn pc] 42)) W->(w.alloc (.cells #[.slice pa pn pc] 42)).heap.size+3<=W.heap.size->wL W fb g X s n c au fix J v aT s' c' cF O w2->aa (fun i=>i=(w.alloc (.cells #[.slice pa pn pc] 42)).heap.size+1\/i=(w.alloc (.cells #[.slice pa pn pc] 42)).heap.size+2) w2 w3->su w sb fb g X s n c au fix J v aT s' c' cF O w3):=fun W w2 w3 v aT s' c' cF O k hW hT k3=>su.of h k1 k hW hT k3
 clear h pN hn hp hJ hj hw k1 B3 aw cU;go_in;go_wp2_with fail;refine(F.o).mono ?_;rintro e w4 ⟨v,er,w3,rfl,⟨rfl,W,aT,s',c',cF,O,kW,hW,hT⟩,h3,k3⟩;have HS:=ab (HF.o W w3 w4 v aT s' c' cF O kW hW hT k3);clear F HF kW hW hT k3 h3;go_wp2_with fail;go_ret2;exact⟨v,aT,s',c',cF,O,rfl,HS.o⟩
theorem agW{b1:Nat}(hB:aq w b1 #[.pointer (some ⟨sb,0,none⟩)] 38)(hS:aq w sb #[.pointer (some ⟨sb,0,none⟩),.pointer (some ⟨fb,0,none⟩)] 79)(F:Calls prog 33 #[.pointer (some ⟨fb,0,none⟩)] (w.setCell ⟨sb,1,none⟩ (.pointer none)) fun e w'=>∃v,e=.returned (.tuple #[v,.int .i64 0])/\Q v w'):
 Calls prog 32 #[.pointer (some ⟨fb,0,none⟩),.pointer (some ⟨b1,0,none⟩)] w fun e w'=>∃v,e=.returned (.tuple #[v,.int .i64 0])/\Q v w':=by
 have c0:w.cell? ⟨b1,0,none⟩=some (.pointer (some ⟨sb,0,none⟩)):=hB.cell 0;have c1:w.cell? ⟨sb,1,none⟩=some (.pointer (some ⟨fb,0,none⟩)):=hS.cell 1;have f1:w.frozen? ⟨sb,1,none⟩=false:=hS.frozen 1;have F:=ab F;clear hB hS;go_in;go_wp2_with fail;refine(F.o).mono ?_;rintro e w1 ⟨v,rfl,hQ⟩;have HQ:=ab hQ;clear hQ F;go_wp2_with fail;go_ret2;exact⟨v,rfl,HQ.o⟩
structure DY(w:World)(sb fb:Nat)(g:FM)(X:ByteArray)(s:bR)(v:Value)(aT:List (Ev×Value))(w':World):Prop where
 cO:gj w' (N8 w w') v X aT
 eq:aT.map (·.1)=s.rest g.ms g.u0 g.G X
 aj:aq w' sb #[.pointer (some ⟨sb,0,none⟩),.pointer none] 79
 kept:aa (fun i=>i=fb\/i=sb) w w'
theorem agx(a:Array Value)(w:World):(callFunc 32 a).run prog w=.ok (.enter 32 a) w:=by kernel_rfl
theorem DY.of(h:ri w sb fb g X s c au fix)(k1:aa af w w1)(k2:aa af w1 W)(hW:w1.heap.size+3<=W.heap.size)(hC:CW (W.setCell ⟨sb,1,none⟩ (.pointer none)) fb g X s v aT w2)(k3:aa (fun i=>i=w1.heap.size+1\/i=w1.heap.size+2) w2 w3):DY w sb fb g X s v aT w3:=by
 have cU:=k1.size;have gg:=k2.size;have rL:W.heap.size<=w2.heap.size:=by have:=hC.kept.size;simpa using this
 have rM:=k3.size;have Me:fb<w.heap.size:=by obtain⟨A,hM,_⟩:=h.at_.mem;exact hM.aj.lt
 have Jl:=h.aj.lt;have az:sb≠fb:=fun e=>h.ap.1 (Or.inr (Or.inl e))
 have kW:aa af w W:=k1.trans k2;have BW:aq (W.setCell ⟨sb,1,none⟩ (.pointer none)) sb #[.pointer (some ⟨sb,0,none⟩),.pointer none] 79:=(h.aj.kept kW (fun hx=>hx)).setCell 1 (.pointer none);have kF:aa (fun i=>i=fb\/i=sb) w w2:=((kW.mono (S':=fun i=>i=fb\/i=sb) (fun i hx=>hx.elim)).setCell (p:=⟨sb,1,none⟩) (Or.inl (Or.inr rfl)) _).bZ hC.kept (fun i _ hx=>Or.inl hx);refine⟨(hC.cO.kept k3 (fun i hi hx=>?_)).mono (fun i hi=>?_) (fun i hi=>hi.2),hC.eq,(BW.kept hC.kept (fun e=>az e)).kept k3 (fun hx=>by omega),kF.bZ k3 (fun i hi hx=>by omega)⟩
 ·have:=hi.1;simp at this;omega
 ·have:=hi.1;simp at this;exact⟨by omega,by have:=hi.2;omega⟩
theorem an6(hg:g.Ok)(h:ri w sb fb g X s c au fix)(pN:s.l=[]->s.mt=none)(AO:s.aW=X.size):
 Calls prog 17 #[.pointer (some ⟨sb,0,none⟩)] w fun e w'=>∃v aT,e=.returned (.tuple #[v,.int .i64 0])/\DY w sb fb g X s v aT w':=by
 have Vo:∀(fn:Fn) (first cap:Array Value) (w:World),(Instr.makeFunc fn first cap).run prog w=.ok (.func fn first cap) w:=fun _ _ _ _=>rfl
 have k1:aa af w (w.alloc (.cells #[.pointer (some ⟨sb,0,none⟩)] 38)):=(aa.refl af w).alloc _;have B3:=aq.new w #[.pointer (some ⟨sb,0,none⟩)] 38;have Jl:=h.aj.lt;have Me:fb<w.heap.size:=by obtain⟨A,hM,_⟩:=h.at_.mem;exact hM.aj.lt
 have cU:(w.alloc (.cells #[.pointer (some ⟨sb,0,none⟩)] 38)).heap.size=w.heap.size+1:=by simp
 have F:=abe (w:=w.alloc (.cells #[.pointer (some ⟨sb,0,none⟩)] 38)) (sb:=sb) (fb:=fb) (N:=32) (cv:=.pointer (some ⟨w.heap.size,0,none⟩)) (P:=fun v er w'=>er=0/\∃W aT,aa af (w.alloc (.cells #[.pointer (some ⟨sb,0,none⟩)] 38)) W/\(w.alloc (.cells #[.pointer (some ⟨sb,0,none⟩)] 38)).heap.size+3<=W.heap.size/\CW (W.setCell ⟨sb,1,none⟩ (.pointer none)) fb g X s v aT w') (h.aj.kept k1 (fun hx=>hx)) agx
  (fun W k hW=>by
    have kS:aa (fun i=>i=sb) W (W.setCell ⟨sb,1,none⟩ (.pointer none)):=(aa.refl (fun i=>i=sb) W).setCell (p:=⟨sb,1,none⟩) (Or.inl rfl) _
    have IS:jC (W.setCell ⟨sb,1,none⟩ (.pointer none)) fb g X s c au fix:=(h.at_.new (k1.trans k)).kept kS (fun i hi=>by
     have hi':i=sb:=hi;rw[hi'];exact h.ap)
    refine(agW (Q:=fun v w'=>∃aT,CW (W.setCell ⟨sb,1,none⟩ (.pointer none)) fb g X s v aT w') (B3.kept k (fun hx=>hx)) (h.aj.kept (k1.trans k) (fun hx=>hx)) ((agY hg IS pN AO).mono ?_)).mono ?_
    ·rintro e w' ⟨v,aT,rfl,hC⟩;exact⟨v,rfl,aT,hC⟩
    ·rintro e w' ⟨v,rfl,aT,hC⟩;obtain⟨ao,cc,hv⟩:=cK hC.cO.row;subst hv;refine⟨_,_,_,_,rfl,⟨rfl,W,aT,k,hW,hC⟩,?_⟩;have k2:aa (fun i=>i=fb\/i=sb) W w':=(kS.mono (S':=fun i=>i=fb\/i=sb) (fun i hi=>Or.inr hi)).bZ hC.kept (fun i _ hi=>Or.inl hi);refine k2.mono (fun i hi=>Or.inl ?_);omega)
 have F:=ab F;have HF:Hid (∀W w2 w3 v aT,aa af (w.alloc (.cells #[.pointer (some ⟨sb,0,none⟩)] 38)) W->(w.alloc (.cells #[.pointer (some ⟨sb,0,none⟩)] 38)).heap.size+3<=W.heap.size->CW (W.setCell ⟨sb,1,none⟩ (.pointer none)) fb g X s v aT w2->aa (fun i=>i=(w.alloc (.cells #[.pointer (some ⟨sb,0,none⟩)] 38)).heap.size+1\/i=(w.alloc (.cells #[.pointer (some ⟨sb,0,none⟩)] 38)).heap.size+2) w2 w3->DY w sb fb g X s v aT w3):=fun W w2 w3 v aT k hW hC k3=>DY.of h k1 k hW hC k3
 clear h pN AO k1 B3 cU;go_in;go_wp2_with fail;refine(F.o).mono ?_;rintro e w4 ⟨v,er,w3,rfl,⟨rfl,W,aT,kW,hW,hC⟩,h3,k3⟩;have HS:=ab (HF.o W w3 w4 v aT kW hW hC k3);clear F HF kW hW hC k3 h3;go_wp2_with fail;go_ret2;exact⟨v,aT,rfl,HS.o⟩
theorem ag8(w:World)(s:ByteArray):(convert 9 42 (.string s)).run prog w=.ok (.slice (some ⟨w.heap.size,0,none⟩) s.size (grownCap w s.size 0 5)) (Lib.bytesWorld w 5 s):=Lib.run_convert_string_bytes w _ _ _ s underlying9 underlying42 underlying5
theorem agr(w:World)(e:TypeId)(s:ByteArray):aa af w (Lib.bytesWorld w e s):=⟨rfl,rfl,rfl,by rw[Lib.bytesWorld_size];omega,fun k hk _=>Lib.bytesWorld_at_old w e s k hk⟩
theorem agq(w:World)(e:TypeId)(s:ByteArray){cap:Nat}(hc:s.size<=cap):jN (Lib.bytesWorld w e s) (.slice (some ⟨w.heap.size,0,none⟩) s.size cap) s:=by
 refine Or.inr ⟨w.heap.size,0,cap,rfl,hc,fun j hj=>?_⟩;rw[Bf,Lib.bytesWorld_cell w e s j hj];have hl:j<s.data.toList.length:=by simpa using hj
 rw[List.getD,Ae hl,Utf8W.get!_of_lt s j hj];rfl
theorem ahD{T T':Nat->ik}{b:Nat->Int}{op:Bool}(h:∀i,i<=n->T i=T' i):∀(k i:Nat) (told:Int),ko T n b op k i told=ko T' n b op k i told:=by
 intro k;induction k with
 |zero=>intro i told;rfl
 |succ k ih=>
  intro i told;unfold ko;by_cases hn:n<i
  ·rw[if_pos hn,if_pos hn]
  ·rw[if_neg hn,if_neg hn,h i (by omega)]
   cases T' i with
   |none=>exact ih _ _
   |some v=>
    obtain⟨j,gs⟩:=v;simp only;rw[ih,ih,ih]
theorem anF(h:Iv p X g):bR.new.rest g.ms g.u0 g.G X=LD p X:=by
 have hb:(aO X).aY=aK X:=by funext i;unfold CX.aY aO aK;simp
 have mq:mJ (eJ g.ms (aO X) g.u0 g.G) (aF X).length:=xI h.ok.fL (aO X) h.ok.u0 g.G;have aiY:mJ (CU (nb p) (lB p) (fP X)) (aF X).length:=fun i j gs hi e=>mq i j gs hi (by rw[h.iC i hi];exact e)
 have e1:=ahA (s:=X) aiY;unfold bR.rest bR.new LD;rw[<-e1];show(eP (eJ g.ms (aO X) g.u0 g.G) (aF X).length (aK X) false 0 (-1)).1=(eP (CU (nb p) (lB p) (fP X)) (aF X).length (aO X).aY false 0 (-1)).1
 rw[hb];unfold eP;rw[ahD h.iC]
structure n_(w w0:World)(sb fb:Nat)(g:FM)(X:ByteArray)(fix:Nat->Prop)(R0:List Ev)(J:bR->Prop)(s:bR)(c:FC)(au O:Nat->Prop)(v:Value)(aT:List (Ev×Value))(wr:World):Prop where
 at_:ri wr sb fb g X s c au fix
 cO:gj wr O v X aT
 ap:∀i,O i->¬FO fb c au i/\i≠sb/\w0.heap.size<=i
 au:∀i,FO fb c au i\/i=sb->w.heap.size<=i
 kept:aa af w wr
 rest:R0=aT.map (·.1)++s.rest g.ms g.u0 g.G X
 fA:s.l=[]->s.mt=none
 wn:c.wn=0
 fx:∀i,fix i\/g.cM i->i<w0.heap.size
 sz:w.heap.size<=w0.heap.size/\w0.heap.size<=wr.heap.size
 j:J s
theorem n_.new(h:n_ w w0 sb fb g X fix R0 J s c au O v aT wr)(k:aa af wr w'):n_ w w0 sb fb g X fix R0 J s c au O v aT w':=
 ⟨h.at_.new k,h.cO.new k,h.ap,h.au,h.kept.trans k,h.rest,h.fA,h.wn,h.fx,⟨h.sz.1,Bb h.sz.2 k.size⟩,h.j⟩
theorem n_.aW(h:n_ w w0 sb fb g X fix R0 J s c au O v aT wr)(hF:su wr sb fb g X s n c au fix J v2 iY s' c' cF O2 w2):
 gj w2 O v X aT/\(∀i,O i->¬FO fb c' cF i/\i≠sb/\w0.heap.size<=i)/\(∀i,O2 i->¬FO fb c' cF i/\i≠sb/\w0.heap.size<=i)/\(∀i,FO fb c' cF i\/i=sb->w.heap.size<=i)/\aa af w w2/\R0=(aT++iY).map (·.1)++s'.rest g.ms g.u0 g.G X/\c'.wn=0/\w0.heap.size<=w2.heap.size:=by
 have hs:=hF.dA.kept.size;have Jl:=h.at_.aj.lt;have hws:=h.kept.size;refine⟨h.cO.kept hF.dA.kept (fun i hi=>(h.ap i hi).1),fun i hi=>⟨fun hf=>?_,(h.ap i hi).2⟩,fun i hi=>⟨(hF.ap i hi).2,?_,?_⟩,fun i hi=>?_,h.kept.bZ hF.dA.kept (fun i hi hx=>by have:=h.au i (Or.inl hx);omega),?_,by rw[hF.wn];exact h.wn,by have:=h.sz;omega⟩
 ·exact(hF.dA.aj i hf).elim (h.ap i hi).1 (fun hx=>by have:=h.cO.lt i hi;omega)
 ·have:=(hF.ap i hi).1;omega
 ·have:=(hF.ap i hi).1;have:=h.sz;omega
 ·rcases hi with hi|hi
  ·exact(hF.dA.aj i hi).elim (fun hx=>h.au i (Or.inl hx)) (fun hx=>by omega)
  ·exact h.au i (Or.inr hi)
 ·rw[h.rest,hF.rest,Ci,Bd]
theorem n_.ahM(h:n_ w w0 sb fb g X fix R0 J s c au O v aT wr)(hF:su wr sb fb g X s n c au fix J v2 iY s' c' cF O2 w2)
 (bt:w3.ownsRow 0 46 4 v3 (aT.length+iY.length) (iF X aT++iF X iY))(hg:w2.grownBy w3 v.ownBlock)(iV:v3.ownBlock=v.ownBlock\/v3.ownBlock=some w2.heap.size):∃O',n_ w w0 sb fb g X fix R0 J s' c' cF O' v3 (aT++iY) w3:=by
 obtain⟨e1,e2,e3,e4,e5,e6,e7,e8⟩:=h.aW hF;obtain⟨E2,K2⟩:=e1.append hF.cO (aa.refl af w2) bt hg iV;have MJ:∀i,v.ownBlock=some i->O i:=h.cO.CQ
 have aw:∀i,FO fb c' cF i->i<w2.heap.size:=fun i hi=>by obtain⟨A,hM,_⟩:=hF.at_.at_.mem;exact hM.lt (Or.inl hi)
 have aqF:=hF.at_.aj.lt;refine⟨_,hF.at_.kept K2 (fun i hi=>?_),E2,fun i hi=>?_,e4,e5.bZ K2 (fun i hi hx=>?_),e6,hF.fA,e7,h.fx,⟨h.sz.1,Bb e8 K2.size⟩,hF.j⟩
 ·have:=e2 i (MJ i hi);exact⟨this.2.1,this.1,fun hf=>by have:=h.fx i (Or.inl hf);omega,fun hf=>by have:=h.fx i (Or.inr hf);omega⟩
 ·rcases hi with hi|hi|⟨hi,_⟩
  ·exact e2 i hi
  ·exact e3 i hi
  ·exact⟨fun hf=>by have:=aw i hf;omega,by omega,by omega⟩
 ·have:=(e2 i (MJ i hx)).2.2;have:=h.sz;omega
theorem n_.ahN(h:n_ w w0 sb fb g X fix R0 J s c au O v aT wr)(hF:su wr sb fb g X s n c au fix J v2 [] s' c' cF O2 w2):n_ w w0 sb fb g X fix R0 J s' c' cF O v aT w2:=by
 obtain⟨e1,e2,e3,e4,e5,e6,e7,e8⟩:=h.aW hF;rw[C8]at e6;exact⟨hF.at_,e1,e2,e4,e5,e6,hF.fA,e7,h.fx,⟨h.sz.1,e8⟩,hF.j⟩
theorem n_.Lp(h:n_ w w0 sb fb g X fix R0 J s c au O v aT wr)(hC:DY wr sb fb g X s v2 iY w2):
 gj w2 O v X aT/\aa af w w2/\R0=(aT++iY).map (·.1)/\∀i,O i->w.heap.size<=i:=by
 refine⟨h.cO.kept hC.kept (fun i hi hx=>?_),h.kept.bZ hC.kept (fun i hi hx=>?_),?_,fun i hi=>by have:=(h.ap i hi).2.2;have:=h.sz;omega⟩
 ·rcases hx with hx|hx
  ·exact(h.ap i hi).1 (Or.inr (Or.inl hx))
  ·exact(h.ap i hi).2.1 hx
 ·have:w.heap.size<=i:=hx.elim (fun e=>h.au i (Or.inl (Or.inr (Or.inl e)))) (fun e=>h.au i (Or.inr e));omega
 ·rw[h.rest,Ci,hC.eq]
theorem alS(a:List UInt8):∃(M:List MS) (x:Int),(eY (vT (120::a))).1=M++[nT [(120,120)] false false x]/\(eY (vT (120::a))).2.2=M.length:=by
 refine⟨(jv (a.map th) [⟨0,[],false,false,0,0,0,0⟩] (0,0)).1,(jv (a.map th) [⟨0,[],false,false,0,0,0,0⟩] (0,0)).2.2,?_,?_⟩<;>
  simp[eY,vT,OR,JU,bu,iO,jv,th,kj]
theorem alU(h:Iv p X g)(hp:nb p=vT (120::a)):∃m,g.ms[g.u0]? =some m/\m.kind=1/\m.sp=[(120,120)]/\m.fo=false/\m.nt=false:=by
 obtain⟨V,j,hO,xd,hu⟩:=h.cM;rw[hp]at hO xd;obtain⟨M,x,e1,e2⟩:=alS a;obtain⟨u,yD⟩:=hO.num j (Or.inl rfl);have hj:j=M.length:=by have:=hO.first;omega
 have jY:u=g.u0:=by have:=vR yD;omega
 obtain⟨R,hV,_,_⟩:=hO.inv;obtain⟨k,hk,aN⟩:=hV.has j u yD (by omega);have hku:k=g.u0:=by omega
 subst hku;have hm:(eY (vT (120::a))).1[j]? =some (nT [(120,120)] false false x):=by rw[e1,hj];simp
 rw[xd];exact⟨_,xD aN hm,rfl,rfl,rfl,rfl⟩
theorem aox{ms:List MS}(hg:eW ms){u0:Nat}{m:MS}(hm:ms[u0]? =some m)(h1:m.kind=1)(h2:m.sp=[(120,120)])(h3:m.fo=false)(h4:m.nt=false){r place:Int}(hr:r≠120):aZ ms A r (jA u0 place false [])=([],none):=by
 have hu:=(Ag.1 hm).1
 have hs:(FS.new ms.length).seen.getD u0 true=false:=by
  show(List.replicate ms.length false).getD u0 true=false
  rw[Af,Cr,if_pos hu];rfl
 have e:=(aaQ hg (ah:=A) (bh:=r) (st:=place) hm hs).2.1 h1
 have et:eV m.sp m.fo m.nt r=false:=by
  rw[h2,h3,h4];unfold eV bV;simp;omega
 have e2:l7 m r place ((FS.new ms.length).mark u0)=(FS.new ms.length).mark u0:=by
  unfold l7;rw[et];rfl
 rw[e2]at e;unfold fH at e;unfold aZ jA;simp only[Aq,if_false,C7,iK,e];rfl
def sm(T:Nat)(s:bR):Prop:=(s.aW<=T->s.l=[]/\s.mt=none/\s.b=0/\s.told= -1)/\(T<s.aW->T<=s.f)
theorem afG(hs:jM (t++p))(ht:∀x∈t.data.toList,x∈ [97,98,99])(hi:i<t.size):(aO (t++p)).bl i≠120:=by
 have hss:(t++p).size=t.size+p.size:=Du;show(fP (t++p)).bl i≠120
 rw[hs.bl (by omega)];have hx:i<t.data.toList.length:=by simpa using hi
 have hl:(t++p).data.toList=t.data.toList++p.data.toList:=by rw[Cy,Do]
 have e:(t++p).get! i=t.data.toList[i]:=by
  have hq:i<(t++p).data.size:=by have:(t++p).data.size=(t++p).size:=rfl
                                 omega
  have h2:(t++p).get! i=(t++p).data.toList[i]'(by simpa using hq):=by
   show(t++p).data[i]! =_
   rw[getElem!_pos _ i hq,<-Es]
  rw[h2];simp only[hl];exact Cp hx
 rw[e];have Vl:t.data.toList[i]=97\/t.data.toList[i]=98\/t.data.toList[i]=99:=by simpa using ht _ (A5 hx)
 rcases Vl with h|h|h<;>rw[h]<;>decide
theorem akL(h:Iv p (t++p) g)(hp:nb p=vT (120::a))(hs:jM (t++p))(ht:∀x∈t.data.toList,x∈ [97,98,99]):Kd g (t++p) (sm t.size) where
 step s A hj hk ab hA hi hf:=by
  refine⟨fun hle=>?_,fun aw=>hj.2 aw⟩;have hle:s.aW<=t.size:=hle;obtain⟨e1,e2,e3,e4⟩:=hj.1 hle;obtain⟨m,m1,m2,m3,m4,m5⟩:=alU h hp;have hb:bd (t++p) (s.i+1)=s.i+1:=hs.IF _ (by omega);have hn:=afG (p:=p) hs ht (i:=s.i) (by omega);have e:=aox h.ok.fL m1 m2 m3 m4 m5 (A:=A) (place:=aK (t++p) s.i) hn;unfold bR.step;rw[e1,e2];simp only[Dc,e,tj];exact⟨trivial,rfl,e3,e4⟩
 iP s b told hj hk hl hm:=by
  refine⟨fun hle=>?_,fun aw=>hj.2 aw⟩;rw[(hj.1 hle).2.1]at hm
  cases hm
 drop s f hj hf:=⟨fun hle=>hj.1 hle,fun aw=>Bb (hj.2 aw) hf⟩
theorem akO(h:n_ w w0 sb fb g X fix (bR.new.rest g.ms g.u0 g.G X) (sm T) s c au O v aT wr)(hf:s.aW<=T):aT=[]:=by
 have e:=congrArg List.length h.rest;obtain⟨_,_,hb,ht⟩:=h.j.1 hf;have e2:s.rest g.ms g.u0 g.G X=bR.new.rest g.ms g.u0 g.G X:=by unfold bR.rest;rw[hb,ht];rfl
 rw[e2,Aj,Db]at e;exact Ax.1 (by omega)
theorem acF(h:sm T s)(hs:s.aW<=T)(hf:s.f=s.aW)(hn:s.aW+n<=T\/s.aW=T):sm T (s.eG n):=
 ⟨fun _=>h.1 hs,fun(aw:T<s.aW+n)=>by show T<=s.f;omega⟩
theorem akK(hX:jM X)(h:su wr sb fb g X s n c au fix (sm T) v aT s' c' cF O w2):(s'.aW<=T->s'.f=s'.aW)/\(s'.K X).size=s'.aW-s'.f/\(T<s'.aW->T<=s'.f):=by
 obtain⟨b1,b2,b3,b4,b5,b6⟩:=h.at_.at_.ok.u5;have hl:=h.at_.at_.ok.qt.le;have wW:=h.at_.at_.ok.low.le;have nG:=hX.IF s'.i (by omega);have UO:=hX.IF s'.f (by omega);refine⟨fun hle=>?_,?_,h.j.2⟩
 ·obtain⟨e1,_,_,_⟩:=h.j.1 hle;have ml:=h.wQ;rw[e1]at ml;have ml:aK X s'.i=aK X s'.f:=ml;unfold aK at ml;have AR:=h.full;rcases Nat.lt_or_ge (bd X s'.i) s'.aW with aw|ia
  ·exfalso
   have aP:(X.extract (bd X s'.i) s'.aW).size=s'.aW-bd X s'.i:=extract_size X _ _ b4
   have h0:((X.extract (bd X s'.i) s'.aW).get! 0).toNat<128:=by
    refine jM.get (fun b hb=>hX b ?_) (by omega);rw[Eh,Array.toList_extract]at hb;exact Dz (Cf hb)
   rw[aii (by omega) h0]at AR
   cases AR
  ·omega
 ·show(X.extract (bd X s'.f) s'.aW).size=_
  rw[extract_size X _ _ b4,UO]
theorem akP(hj:sm T s)(h:su wr sb fb g X s n c au fix (sm T) v aT s' c' cF O w2)(hf:s.aW+n<=T):aT=[]:=by
 have e:=congrArg List.length h.rest;obtain⟨_,_,hb,ht⟩:=hj.1 (by omega);obtain⟨_,_,jV,BH⟩:=h.j.1 (by rw[h.aW];exact hf);have e2:s.rest g.ms g.u0 g.G X=s'.rest g.ms g.u0 g.G X:=by unfold bR.rest;rw[hb,ht,jV,BH]
 rw[e2,Aj,Db]at e;exact Ax.1 (by omega)
theorem su.new(h:su w sb fb g X s n c au fix J v aT s' c' cF O w2)(k:aa af w2 w'):su w sb fb g X s n c au fix J v aT s' c' cF O w':=
 ⟨h.at_.new k,h.cO.new k,h.ap,⟨h.dA.kept.bZ k (fun i _ hx=>hx.elim),h.dA.aj⟩,h.rest,h.aW,h.fA,h.wQ,h.full,h.wn,h.j⟩
theorem ahJ(t p:ByteArray){j:Nat}(h:j<=t.size):(t++p).extract i j=t.extract i j:=by
 ext1
 rw[Eh,Eh,Cy,Array.extract_append];have e:j-t.data.size=0:=Nat.sub_eq_zero_of_le h;rw[e];simp
theorem ahK(t p:ByteArray):(t++p).extract t.size (t.size+p.size)=p:=ByteArray.extract_append_eq_right rfl rfl
theorem apy{u:ByteArray}(hp:p=(⟨#[120]⟩:ByteArray)++u)(hu:∀b∈u.data.toList,b∈ (⟨#[97,98,99]⟩:ByteArray).data.toList):p.data.toList=120::u.data.toList/\(∀x∈p.data.toList,x∈ti)/\p.size=u.size+1:=by
 have e:p.data.toList=120::u.data.toList:=by rw[hp,Cy,Do];rfl
 refine⟨e,fun x hx=>?_,?_⟩
 ·rw[e]at hx;rcases Cg.1 hx with rfl|hx
  ·decide
  ·have:x=97\/x=98\/x=99:=(by simpa using hu x hx);rcases this with rfl|rfl|rfl<;>decide
 ·rw[hp,Du];show 1+u.size=_
  omega
theorem afP(ht:∀x∈t.data.toList,x∈ [97,98,99])(hp:∀x∈p.data.toList,x∈ti):jM (t++p):=fun x hx=>by
 have aw:∀x∈ti,x.toNat<128:=by decide
 have hl3:∀x∈ ([97,98,99]:List UInt8),x.toNat<128:=by decide
 rw[Cy,Do,Al]at hx;exact hx.elim (fun h=>hl3 x (ht x h)) (fun h=>aw x (hp x h))
def KT(w W:World)(sb:Nat)(p:ByteArray)(T:Nat)(v:Value):Prop:=∃(bk cap:Nat),v=.slice (some ⟨bk,0,none⟩) 1 cap/\W.cell? ⟨bk,0,none⟩=some (.int .i64 (T:Int))/\W.cell? ⟨bk,1,none⟩=some (.int .i64 ((T:Int)+(p.size:Int)))/\W.cell? ⟨bk,3,none⟩=some (.string p)/\aq W sb #[.pointer (some ⟨sb,0,none⟩),.pointer none] 79/\aa af w W
theorem KT.of(hX:jM X)(PI:X.size=T+p.size)(hXR:X.extract T (T+p.size)=p)(h:gj W O v X aT)(hm: [(⟨T,T+p.size,[]⟩:Ev)]=aT.map (·.1))(hB:aq W sb #[.pointer (some ⟨sb,0,none⟩),.pointer none] 79)(k:aa af w W):KT w W sb p T v:=by
 obtain⟨q,rfl⟩:∃q,aT=[q]:=by
  cases aT with
  |nil=>cases hm
  |cons q l=>cases l with
   |nil=>exact⟨q,rfl⟩
   |cons a l=>simp at hm
 have hq:q.1=⟨T,T+p.size,[]⟩:=by simpa using hm.symm
 have iW:bd X T=T:=hX.bd (by omega);have mS:bd X (T+p.size)=T+p.size:=hX.bd (by omega)
 have hv:iF X [q]=[.int .i64 (T:Int),.int .i64 ((T:Int)+(p.size:Int)),q.2,.string p]:=by
  unfold iF Lz;rw[C5,Fp,C8,hq];unfold aK;simp only[iW,mS,hXR];rw[Int.natCast_add]
 rcases h.cell with⟨_,h0⟩|⟨eg,ec,rfl,PX,jj⟩
 ·cases h0
 ·rw[hv]at jj;refine⟨eg,ec,rfl,?_,?_,?_,hB,k⟩
  ·have:=jj 0 _ rfl;simpa[Addr.add]using this
  ·have:=jj 1 _ rfl;simpa[Addr.add]using this
  ·have:=jj 3 _ rfl;simpa[Addr.add]using this
theorem n_.an1(h:n_ w w0 sb fb g X fix R0 J s c au O v aT wr)(hC:DY wr sb fb g X s v2 iY w2)
 (bt:w3.ownsRow 0 46 4 v3 (aT.length+iY.length) (iF X aT++iF X iY))(hg:w2.grownBy w3 v.ownBlock)(iV:v3.ownBlock=v.ownBlock\/v3.ownBlock=some w2.heap.size):∃O',gj w3 O' v3 X (aT++iY)/\aa af w w3/\aq w3 sb #[.pointer (some ⟨sb,0,none⟩),.pointer none] 79:=by
 obtain⟨e1,e2,e3,e4⟩:=h.Lp hC;obtain⟨E2,K2⟩:=e1.append hC.cO (aa.refl af w2) bt hg iV;exact⟨_,E2,e2.bZ K2 (fun i hi hx=>by have:=e4 i (e1.CQ i hx);omega),hC.aj.kept K2 (fun hx=>(h.ap sb (h.cO.CQ sb hx)).2.1 rfl)⟩
theorem agH(a b c:Value)(w:World):CallsD prog 50 #[a,b,c] .returning w fun e u' w'=>e=.returned (.tuple #[])/\u'=.returning/\w'=w:=by
 refine callsD_of_wpS func50 rfl fun c₀ cs hu=>?_
 apply wpS_seq
 apply wpS_region
 simp[wpOpsS,go_sem,recoverD,hu,ntmps50,Exit.thenS]
 refine wpS_cond (t:=false) (by simp[Act.eval,Array.replicate]) ?_;simp only[Aq,if_false];refine wpS_of_wp (wp_skip ?_)
 cases c₀;simp_all[bodyPostS,results,results50]
theorem aiu{N:Nat}{P:Value->Int->World->Prop}(hB:aq w sb #[.pointer (some ⟨sb,0,none⟩),.pointer (some ⟨fb,0,none⟩)] 79)(I3:∀a W,(callFunc N a).run prog W=.ok (.enter N a) W)
 (Ma:∀W,aa af w W->w.heap.size+3<=W.heap.size->Calls prog N #[.pointer (some ⟨fb,0,none⟩)] W fun e w'=>∃(n er:Int),e=.returned (.tuple #[.int .i64 n,.int .i64 er])/\P (.int .i64 n) er w'/\aa (wI w W) W w'):
 Calls prog 29 #[.pointer (some ⟨sb,0,none⟩),.func (.func N) #[] #[]] w fun e w'=>∃(v:Value) (er:Int) (w1:World),e=.returned (.tuple #[v,.int .i64 er])/\P v er w1/\w.heap.size+3<=w1.heap.size/\aa (fun i=>i=w.heap.size+1\/i=w.heap.size+2) w1 w':=by
 have Vo:∀(fn:Fn) (first cap:Array Value) (w:World),(Instr.makeFunc fn first cap).run prog w=.ok (.func fn first cap) w:=fun _ _ _ _=>rfl
 have Mv:∀W,(binOp .neq 38 (.pointer (some ⟨sb,0,none⟩)) (.pointer (some ⟨sb,0,none⟩))).run prog W=.ok (.bool false) W:=fun W=>Ws W sb
 have aw:=hB.lt;have K0:aa af w (((w.alloc (.cells #[.pointer (some ⟨sb,0,none⟩)] 38)).alloc (.cells #[.int .i64 0] 3)).alloc (.cells #[.int .i64 0] 25)):=(((aa.refl af w).alloc _).alloc _).alloc _;have L0:aq (((w.alloc (.cells #[.pointer (some ⟨sb,0,none⟩)] 38)).alloc (.cells #[.int .i64 0] 3)).alloc (.cells #[.int .i64 0] 25)) w.heap.size #[.pointer (some ⟨sb,0,none⟩)] 38:=((aq.new w #[.pointer (some ⟨sb,0,none⟩)] 38).alloc _).alloc _
 have L1:aq (((w.alloc (.cells #[.pointer (some ⟨sb,0,none⟩)] 38)).alloc (.cells #[.int .i64 0] 3)).alloc (.cells #[.int .i64 0] 25)) (w.heap.size+1) #[.int .i64 0] 3:=by
  have:=(aq.new (w.alloc (.cells #[.pointer (some ⟨sb,0,none⟩)] 38)) #[.int .i64 0] 3).alloc (.cells #[.int .i64 0] 25);simpa using this
 have L2:aq (((w.alloc (.cells #[.pointer (some ⟨sb,0,none⟩)] 38)).alloc (.cells #[.int .i64 0] 3)).alloc (.cells #[.int .i64 0] 25)) (w.heap.size+1+1) #[.int .i64 0] 25:=by
  have:=aq.new ((w.alloc (.cells #[.pointer (some ⟨sb,0,none⟩)] 38)).alloc (.cells #[.int .i64 0] 3)) #[.int .i64 0] 25;simpa using this
 have aP:(((w.alloc (.cells #[.pointer (some ⟨sb,0,none⟩)] 38)).alloc (.cells #[.int .i64 0] 3)).alloc (.cells #[.int .i64 0] 25)).heap.size=w.heap.size+3:=by simp
 have HB:=ab (hB.kept K0 (fun hx=>hx));have HC:=ab Ma;clear hB Ma;go_enter_defers func29,ntmps29;go_wp2_with fail;generalize(((w.alloc (.cells #[.pointer (some ⟨sb,0,none⟩)] 38)).alloc (.cells #[.int .i64 0] 3)).alloc (.cells #[.int .i64 0] 25))=W at*;have d0:W.cell? ⟨w.heap.size,0,none⟩=some (.pointer (some ⟨sb,0,none⟩)):=L0.cell 0;have e0:W.cell? ⟨sb,0,none⟩=some (.pointer (some ⟨sb,0,none⟩)):=HB.o.cell 0;have e1:W.cell? ⟨sb,1,none⟩=some (.pointer (some ⟨fb,0,none⟩)):=HB.o.cell 1;have KK:=ab K0;have HL:=ab (And.intro L1 L2);clear K0 L0 L1 L2;go_big_quiet (fail);have K1:=ab (KK.o.drewN nq);have DR:Hid (aq (W.drewN nq) (w.heap.size+1) #[.int .i64 0] 3/\aq (W.drewN nq) (w.heap.size+1+1) #[.int .i64 0] 25):=HL.o;have d0':(W.drewN nq).cell? ⟨w.heap.size,0,none⟩=some (.pointer (some ⟨sb,0,none⟩)):=d0;have sD:(W.drewN nq).cell? ⟨sb,1,none⟩=some (.pointer (some ⟨fb,0,none⟩)):=e1;have ajL:(W.drewN nq).heap.size=w.heap.size+3:=aP;generalize W.drewN nq=W1 at*;clear d0 e0 e1 KK HL aP;go_wp2_with fail;refine(HC.o W1 K1.o (by omega)).mono ?_;rintro e w2 ⟨n,er,rfl,hP,k2⟩;have b1:=DR.o.1.kept k2 (show¬wI w W1 (w.heap.size+1) by unfold wI;omega);have b2:=DR.o.2.kept k2 (show¬wI w W1 (w.heap.size+1+1) by unfold wI;omega);have g1:w2.cell? ⟨w.heap.size+1,0,none⟩=some (.int .i64 0):=b1.cell 0;have g2:w2.cell? ⟨w.heap.size+1+1,0,none⟩=some (.int .i64 0):=b2.cell 0;have f1:w2.frozen? ⟨w.heap.size+1,0,none⟩=false:=b1.frozen 0;have f2:w2.frozen? ⟨w.heap.size+1+1,0,none⟩=false:=b2.frozen 0;have HP:=ab hP;have gg:=k2.size;have tD:=ab (And.intro b1 b2);clear hP k2 b1 b2 HC DR;have b9:=(tD.o.1.setCell 0 (.int .i64 n)).y9 (p:=⟨w.heap.size+1+1,0,none⟩) (show w.heap.size+1≠w.heap.size+1+1 by omega) (.int .i64 er);have c9:=(tD.o.2.y9 (p:=⟨w.heap.size+1,0,none⟩) (show w.heap.size+1+1≠w.heap.size+1 by omega) (.int .i64 n)).setCell 0 (.int .i64 er);have r1:((w2.setCell ⟨w.heap.size+1,0,none⟩ (.int .i64 n)).setCell ⟨w.heap.size+1+1,0,none⟩ (.int .i64 er)).cell? ⟨w.heap.size+1,0,none⟩=some (.int .i64 n):=b9.cell 0;have r2:((w2.setCell ⟨w.heap.size+1,0,none⟩ (.int .i64 n)).setCell ⟨w.heap.size+1+1,0,none⟩ (.int .i64 er)).cell? ⟨w.heap.size+1+1,0,none⟩=some (.int .i64 er):=c9.cell 0;have k9:Hid (aa (fun i=>i=w.heap.size+1\/i=w.heap.size+2) w2 ((w2.setCell ⟨w.heap.size+1,0,none⟩ (.int .i64 n)).setCell ⟨w.heap.size+1+1,0,none⟩ (.int .i64 er))):=((aa.refl (fun i=>i=w.heap.size+1\/i=w.heap.size+2) w2).setCell (p:=⟨w.heap.size+1,0,none⟩) (Or.inl (Or.inl rfl)) _).setCell (p:=⟨w.heap.size+1+1,0,none⟩) (Or.inl (Or.inr rfl)) _;clear b9 c9;go_wp2_with fail;generalize((w2.setCell ⟨w.heap.size+1,0,none⟩ (.int .i64 n)).setCell ⟨w.heap.size+1+1,0,none⟩ (.int .i64 er))=w9 at*;refine leaves_cons (f:=50) (args:=#[.pointer (some ⟨w.heap.size,0,none⟩),.pointer (some ⟨w.heap.size+1,0,none⟩),.pointer (some ⟨w.heap.size+1+1,0,none⟩)]) (by simp) (by simp[go_sem]) ?_;refine(agH _ _ _ _).mono ?_;rintro e u' pB ⟨rfl,rfl,rfl⟩;simp[Leaves,settle,results,results29,go_sem,r1,r2];exact⟨_,_,⟨rfl,rfl⟩,w2,HP.o,by omega,k9.o⟩
theorem aiv{fn:Value}(hB:aq w sb #[.pointer (some ⟨sb,0,none⟩),.pointer none] 79):
 Calls prog 29 #[.pointer (some ⟨sb,0,none⟩),fn] w fun e w'=>e=.returned (.tuple #[.int .i64 0,.int .i64 10])/\aa af w w':=by
 have Mv:∀W,(binOp .neq 38 (.pointer (some ⟨sb,0,none⟩)) (.pointer (some ⟨sb,0,none⟩))).run prog W=.ok (.bool false) W:=fun W=>Ws W sb
 have aw:=hB.lt;have K0:aa af w (((w.alloc (.cells #[.pointer (some ⟨sb,0,none⟩)] 38)).alloc (.cells #[.int .i64 0] 3)).alloc (.cells #[.int .i64 0] 25)):=(((aa.refl af w).alloc _).alloc _).alloc _;have L0:aq (((w.alloc (.cells #[.pointer (some ⟨sb,0,none⟩)] 38)).alloc (.cells #[.int .i64 0] 3)).alloc (.cells #[.int .i64 0] 25)) w.heap.size #[.pointer (some ⟨sb,0,none⟩)] 38:=((aq.new w #[.pointer (some ⟨sb,0,none⟩)] 38).alloc _).alloc _
 have L1:aq (((w.alloc (.cells #[.pointer (some ⟨sb,0,none⟩)] 38)).alloc (.cells #[.int .i64 0] 3)).alloc (.cells #[.int .i64 0] 25)) (w.heap.size+1) #[.int .i64 0] 3:=by
  have:=(aq.new (w.alloc (.cells #[.pointer (some ⟨sb,0,none⟩)] 38)) #[.int .i64 0] 3).alloc (.cells #[.int .i64 0] 25);simpa using this
 have L2:aq (((w.alloc (.cells #[.pointer (some ⟨sb,0,none⟩)] 38)).alloc (.cells #[.int .i64 0] 3)).alloc (.cells #[.int .i64 0] 25)) (w.heap.size+1+1) #[.int .i64 0] 25:=by
  have:=aq.new ((w.alloc (.cells #[.pointer (some ⟨sb,0,none⟩)] 38)).alloc (.cells #[.int .i64 0] 3)) #[.int .i64 0] 25;simpa using this
 have HB:=ab (hB.kept K0 (fun hx=>hx));clear hB;go_enter func29,ntmps29;go_wp2_with fail;generalize(((w.alloc (.cells #[.pointer (some ⟨sb,0,none⟩)] 38)).alloc (.cells #[.int .i64 0] 3)).alloc (.cells #[.int .i64 0] 25))=W at*;have d0:W.cell? ⟨w.heap.size,0,none⟩=some (.pointer (some ⟨sb,0,none⟩)):=L0.cell 0;have e0:W.cell? ⟨sb,0,none⟩=some (.pointer (some ⟨sb,0,none⟩)):=HB.o.cell 0;have e1:W.cell? ⟨sb,1,none⟩=some (.pointer none):=HB.o.cell 1;have d1:W.cell? ⟨w.heap.size+1,0,none⟩=some (.int .i64 0):=L1.cell 0;have d2:W.cell? ⟨w.heap.size+1+1,0,none⟩=some (.int .i64 0):=L2.cell 0;have f1:W.frozen? ⟨w.heap.size+1,0,none⟩=false:=L1.frozen 0;have f2:W.frozen? ⟨w.heap.size+1+1,0,none⟩=false:=L2.frozen 0;have KK:=ab K0;have HL:=ab (And.intro L1 L2);clear K0 L0 L1 L2;go_big_quiet (fail);go_wp2_with fail;have B1:=((show aq (W.drewN nq) _ _ _ from HL.o.1).setCell 0 (.int .i64 0)).y9 (p:=⟨w.heap.size+1+1,0,none⟩) (show w.heap.size+1≠w.heap.size+1+1 by omega) (.int .i64 10);have B2:=((show aq (W.drewN nq) _ _ _ from HL.o.2).y9 (p:=⟨w.heap.size+1,0,none⟩) (show w.heap.size+1+1≠w.heap.size+1 by omega) (.int .i64 0)).setCell 0 (.int .i64 10);have r1:=B1.cell 0;have r2:=B2.cell 0;have K9:=((KK.o.drewN nq).setCell (p:=⟨w.heap.size+1,0,none⟩) (Or.inr (by show w.heap.size<=w.heap.size+1;omega)) (.int .i64 0)).setCell (p:=⟨w.heap.size+1+1,0,none⟩) (Or.inr (by show w.heap.size<=w.heap.size+1+1;omega)) (.int .i64 10);exact Bi (v:=.tuple #[.int .i64 0,.int .i64 10]) (by simp[results,results29,go_sem,r1,r2]) rfl ⟨rfl,K9⟩
theorem ah2{K:ByteArray}{mt:Bool}{l:List bG}(h:fE w fb g c K A mt l au fix):Calls prog 31 #[.pointer (some ⟨fb,0,none⟩)] w fun e w'=>e=.returned (.int .i64 (K.size:Int))/\w'=w:=by
 obtain⟨ao,cc,hv⟩:=cK h.kp;have c4:w.cell? ⟨fb,4,none⟩=some c.kv:=h.aj.cell 4;rw[hv]at c4;generalize K.size=n at*;clear h hv;go_in;go_wp2_with fail;go_ret;exact⟨rfl,rfl⟩
theorem ako{n:Int}(F:Calls prog 31 #[.pointer (some ⟨fb,0,none⟩)] w fun e w'=>e=.returned (.int .i64 n)/\w'=w):Calls prog 30 #[.pointer (some ⟨fb,0,none⟩)] w fun e w'=>e=.returned (.tuple #[.int .i64 n,.int .i64 0])/\w'=w:=by
 have F:=ab F;go_in;go_wp2_with fail;refine(F.o).mono ?_;rintro e w1 ⟨rfl,rfl⟩;go_wp2_with fail;go_ret2;exact⟨rfl,rfl⟩
theorem agB(a:Array Value)(w:World):(callFunc 30 a).run prog w=.ok (.enter 30 a) w:=by kernel_rfl
theorem an8(h:ri w sb fb g X s c au fix):Calls prog 16 #[.pointer (some ⟨sb,0,none⟩)] w fun e w'=>e=.returned (.int .i64 ((s.K X).size:Int))/\aa af w w':=by
 have F:=aiu (w:=w) (sb:=sb) (fb:=fb) (N:=30) (P:=fun v er w'=>v=.int .i64 ((s.K X).size:Int)/\er=0/\aa af w w') h.aj agB
  (fun W k hW=>by
    obtain⟨A,hM,_⟩:=h.at_.mem;refine(ako (ah2 (hM.new k))).mono ?_;rintro e w' ⟨rfl,rfl⟩;exact⟨_,_,rfl,⟨rfl,rfl,k⟩,aa.refl _ _⟩)
 have F:=ab F;clear h;go_in;go_wp2_with fail;refine(F.o).mono ?_;rintro e w4 ⟨v,er,w3,rfl,⟨rfl,rfl,k3⟩,h3,k4⟩;have K4:Hid (aa af w w4):=k3.bZ k4 (fun i hi hx=>by omega);clear F k3 k4;go_wp2_with fail;go_ret;exact⟨rfl,K4.o⟩
theorem aeH(hB:aq w sb #[.pointer (some ⟨sb,0,none⟩),.pointer none] 79):Calls prog 16 #[.pointer (some ⟨sb,0,none⟩)] w fun e w'=>e=.returned (.int .i64 0)/\aa af w w':=by
 have F:=ab (aiv (fn:=.func (.func 30) #[] #[]) hB);clear hB;go_in;go_wp2_with fail;refine(F.o).mono ?_;rintro e w1 ⟨rfl,k1⟩;have K1:=ab k1;clear F k1;go_wp2_with fail;go_ret;exact⟨rfl,K1.o⟩
theorem ahd{zs:List Int}(n:Nat)(hR:Iw w v zs)(hz:zs.length<=10000000)(hn:n<=1000):Calls prog 13 #[v,.int .i64 (n:Int)] w fun e w'=>(∃v',e=.returned v'/\Iw w v' (zs.take n))/\w'=w:=by
 rcases hR with⟨rfl,rfl⟩|⟨a,c,rfl,hc,h3,h4⟩
 ·go_enter func13,ntmps13
  have hd:¬((n:Int)<0):=by omega
  go_wp2_with fail
  go_ret
  exact⟨⟨_,rfl,Or.inl ⟨rfl,by simp⟩⟩,rfl⟩
 ·by_cases aw:n<zs.length
  ·have hd:((n:Int)<(zs.length:Int)):=(by omega);have H3:=ab h3;have H4:=ab h4;clear h3 h4;generalize hL:zs.length=L at*;have HL:=ab hL;clear hL;go_enter func13,ntmps13;have Jd:(n:Int)<=(c:Int):=(by omega);have aqp:n<=c:=(by omega);go_wp2_with fail;go_ret;have cT:(zs.take n).length=n:=by rw[Dq,HL.o];omega
   refine⟨⟨_,rfl,Or.inr ⟨a,c,by rw[cT];rfl,by omega,fun i hi=>?_,fun z VP=>H4.o z (Cf VP)⟩⟩,rfl⟩;rw[cT]at hi;rw[H3.o i (by omega)];simp[Af,hi]
  ·have hd:¬((n:Int)<(zs.length:Int)):=(by omega);go_enter func13,ntmps13;go_wp2_with fail;go_ret;exact⟨⟨_,rfl,Or.inr ⟨a,c,by rw[By (by omega)];rfl,by rw[By (by omega)];exact hc,by rw[By (by omega)];exact h3,by rw[By (by omega)];exact h4⟩⟩,rfl⟩
