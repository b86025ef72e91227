/- Package trawl's Feed and Close on a Stream that is open -/
import Derived.Test.YtpdnofhackjfdaaGreatDoorP44
set_option linter.all false
set_option maxRecDepth 100000
set_option maxHeartbeats 8000000
namespace Go.Proofs.YtpdnofhackjfdaaGreatDoor
open Go.Proofs.Tryz
open Go.RowKit Go.Maps
variable {X p:ByteArray} {c c':FC} {g:FM} {s s':bZ} {J:bZ->Prop} {aP gS:List (Ev×Value)} {R0:List Ev} {xs ys:List Int} {fb n sb:Nat} {TX:Nat->ByteArray} {A B:Nat->Int} {GS:Nat->List Int} {O O2 fix au cJ:Nat->Prop} {GV:Nat->Value} {pv v v2 v3 va vb:Value} {Q:Value->World->Prop} {W w w' w0 w1 w2 w3 wr:World}
theorem ahF{b3:Nat}(hB:aq w b3 #[pv] 42)(F:Calls prog 28 #[.pointer (some ⟨fb,0,none⟩),pv] w fun e w'=>∃v,e=.returned (.tuple #[v,.int .i64 0])/\Q v w'):
 Calls prog 27 #[.pointer (some ⟨fb,0,none⟩),.pointer (some ⟨b3,0,none⟩)] w fun e w'=>∃v,e=.returned (.tuple #[v,.int .i64 0])/\Q v w':=by
 have c0:w.cell? ⟨b3,0,none⟩=some pv:=hB.cell 0;have F:=ab F;clear hB;go_in;go_wp2_with fail;refine(F.out).mono ?_;rintro e w1 ⟨v,rfl,hQ⟩;have HQ:=ab hQ;clear hQ F;go_wp2_with fail;go_ret2;exact⟨v,rfl,HQ.out⟩
structure zD(w:World)(sb fb:Nat)(g:FM)(X:ByteArray)(s:bZ)(n:Nat)(c:FC)(au fix:Nat->Prop)(J:bZ->Prop)(v:Value)(aP:List (Ev×Value))(s':bZ)(c':FC)(cJ O:Nat->Prop)(w':World):Prop where
 at_:sA w' sb fb g X s' c' cJ fix
 cS:eW w' O v X aP
 ap:∀i,O i->w.heap.size<=i/\¬FO fb c' cJ i
 dD:cF (FO fb c au) (FO fb c' cJ) w w'
 rest:s.rest g.ms g.u0 g.G X=aP.map (·.1)++s'.rest g.ms g.u0 g.G X
 aX:s'.aX=s.aX+n
 fu:s'.l=[]->s'.mt=none
 zV:zW X s'.i s'.l=aN X s'.f
 full:vm (X.extract (bd X s'.i) s'.aX)=false
 wn:c'.wn=c.wn
 j:J s'
theorem agy(a:Array Value)(w:World):(callFunc 27 a).run prog w=.ok (.enter 27 a) w:=by kernel_rfl
theorem zD.of(h:sA w sb fb g X s c au fix)(k1:aa af w w1)(k2:aa af w1 W)(hW:w1.heap.size+3<=W.heap.size)(hT:wJ W fb g X s n c au fix J v aP s' c' cJ O w2)(k3:aa (fun i=>i=w1.heap.size+1\/i=w1.heap.size+2) w2 w3):zD w sb fb g X s n c au fix J v aP s' c' cJ O w3:=by
 have cR:=k1.size;have gi:=k2.size;have qG:=hT.dD.kept.size;have aw:∀i,FO fb c au i\/fix i\/g.cI i->i<w.heap.size:=fun i hi=>by obtain⟨A,hM,_⟩:=h.at_.mem;exact hM.lt hi
 have I8:=h.ak.lt;have kW:aa af w W:=k1.trans k2
 have hS:∀i,(i=w1.heap.size+1\/i=w1.heap.size+2)->¬FO fb c' cJ i/\¬fix i/\¬g.cI i:=fun i hi=>by
  refine⟨fun hf=>?_,fun hf=>?_,fun hf=>?_⟩
  ·rcases hT.dD.ak i hf with hx|hx
   ·have:=aw i (Or.inl hx);omega
   ·omega
  ·have:=aw i (Or.inr (Or.inl hf));omega
  ·have:=aw i (Or.inr (Or.inr hf));omega
 have kx:aa (FO fb c au) w w2:=(kW.mono (S':=FO fb c au) (fun i hx=>hx.elim)).trans hT.dD.kept;refine⟨⟨?_,hT.at_.kept k3 hS,fun hf=>?_,h.ap.2.1,h.ap.2.2⟩,hT.cS.kept k3 (fun i hi hx=>?_),fun i hi=>⟨by have:=(hT.ap i hi).1;omega,(hT.ap i hi).2⟩,⟨kx.bV k3 (fun i hi hx=>by omega),fun i hf=>?_⟩,hT.rest,hT.aX,hT.fu,hT.zV,hT.full,hT.wn,hT.j⟩
 ·exact(h.ak.kept kx h.ap.1).kept k3 (fun hx=>by omega)
 ·rcases hT.dD.ak sb hf with hx|hx
  ·exact h.ap.1 hx
  ·omega
 ·have:=(hT.ap i hi).1;omega
 ·rcases hT.dD.ak i hf with hx|hx
  ·exact Or.inl hx
  ·exact Or.inr (by omega)
theorem aeH(hg:g.Ok)(h:sA w sb fb g X s c au fix)(pK:s.l=[]->s.mt=none)(hn:s.aX+n<=X.size)(hp:jL w pv (X.extract s.aX (s.aX+n)))(hJ:NS g X J)(hj:J (s.eV n))(hw:c.wn=0):
 Calls prog 15 #[.pointer (some ⟨sb,0,none⟩),pv] w fun e w'=>∃v aP s' c' cJ O,e=.returned (.tuple #[v,.int .i64 0])/\zD w sb fb g X s n c au fix J v aP s' c' cJ O w':=by
 have hmf:∀(fn:Fn) (first cap:Array Value) (w:World),(Instr.makeFunc fn first cap).run prog w=.ok (.func fn first cap) w:=fun _ _ _ _=>rfl
 obtain⟨pa,pn,pc,hpv⟩:∃pa pn pc,pv=.slice pa pn pc:=by
  rcases hp with⟨e,_⟩|⟨b,off,cap,e,_⟩
  ·exact⟨_,_,_,e⟩
  ·exact⟨_,_,_,e⟩
 subst hpv;have k1:aa af w (w.alloc (.cells #[.slice pa pn pc] 42)):=(aa.refl af w).alloc _;have B3:=aq.new w #[.slice pa pn pc] 42;have aw:∀i,FO fb c au i\/fix i\/g.cI i->i<w.heap.size:=fun i hi=>by obtain⟨A,hM,_⟩:=h.at_.mem;exact hM.lt hi
 have cR:(w.alloc (.cells #[.slice pa pn pc] 42)).heap.size=w.heap.size+1:=by simp
 have F:=abi (w:=w.alloc (.cells #[.slice pa pn pc] 42)) (sb:=sb) (fb:=fb) (N:=27) (cv:=.pointer (some ⟨w.heap.size,0,none⟩)) (P:=fun v er w'=>er=0/\∃W aP s' c' cJ O,aa af (w.alloc (.cells #[.slice pa pn pc] 42)) W/\(w.alloc (.cells #[.slice pa pn pc] 42)).heap.size+3<=W.heap.size/\wJ W fb g X s n c au fix J v aP s' c' cJ O w') (h.ak.kept k1 (fun hx=>hx)) agy
  (fun W k hW=>by
    refine(ahF (Q:=fun v w'=>∃aP s' c' cJ O,wJ W fb g X s n c au fix J v aP s' c' cJ O w') (B3.kept k (fun hx=>hx)) ((ahG hg (h.at_.new (k1.trans k)) pK hn (hp.new (k1.trans k)) hJ hj hw).mono ?_)).mono ?_
    ·rintro e w' ⟨v,aP,s',c',cJ,O,rfl,hT⟩;exact⟨v,rfl,aP,s',c',cJ,O,hT⟩
    ·rintro e w' ⟨v,rfl,aP,s',c',cJ,O,hT⟩;obtain⟨ao,cc,hv⟩:=cA hT.cS.row;subst hv;refine⟨_,_,_,_,rfl,⟨rfl,W,aP,s',c',cJ,O,k,hW,hT⟩,hT.dD.kept.mono (fun i hi=>Or.inl ?_)⟩;have:=aw i (Or.inl hi);omega)
 have F:=ab F;have HF:Hid (∀W w2 w3 v aP s' c' cJ O,aa af (w.alloc (.cells #[.slice pa pn pc] 42)) W->(w.alloc (.cells #[.slice pa pn pc] 42)).heap.size+3<=W.heap.size->wJ W fb g X s n c au fix J v aP s' c' cJ O w2->aa (fun i=>i=(w.alloc (.cells #[.slice pa pn pc] 42)).heap.size+1\/i=(w.alloc (.cells #[.slice pa pn pc] 42)).heap.size+2) w2 w3->zD w sb fb g X s n c au fix J v aP s' c' cJ O w3):=fun W w2 w3 v aP s' c' cJ O k hW hT k3=>zD.of h k1 k hW hT k3
 clear h pK hn hp hJ hj hw k1 B3 aw cR;go_in;go_wp2_with fail;refine(F.out).mono ?_;rintro e w4 ⟨v,er,w3,rfl,⟨rfl,W,aP,s',c',cJ,O,kW,hW,hT⟩,h3,k3⟩;have HS:=ab (HF.out W w3 w4 v aP s' c' cJ O kW hW hT k3);clear F HF kW hW hT k3 h3;go_wp2_with fail;go_ret2;exact⟨v,aP,s',c',cJ,O,rfl,HS.out⟩
theorem agV{b1:Nat}(hB:aq w b1 #[.pointer (some ⟨sb,0,none⟩)] 38)(hS:aq w sb #[.pointer (some ⟨sb,0,none⟩),.pointer (some ⟨fb,0,none⟩)] 79)(F:Calls prog 33 #[.pointer (some ⟨fb,0,none⟩)] (w.setCell ⟨sb,1,none⟩ (.pointer none)) fun e w'=>∃v,e=.returned (.tuple #[v,.int .i64 0])/\Q v w'):
 Calls prog 32 #[.pointer (some ⟨fb,0,none⟩),.pointer (some ⟨b1,0,none⟩)] w fun e w'=>∃v,e=.returned (.tuple #[v,.int .i64 0])/\Q v w':=by
 have c0:w.cell? ⟨b1,0,none⟩=some (.pointer (some ⟨sb,0,none⟩)):=hB.cell 0;have c1:w.cell? ⟨sb,1,none⟩=some (.pointer (some ⟨fb,0,none⟩)):=hS.cell 1;have f1:w.frozen? ⟨sb,1,none⟩=false:=hS.frozen 1;have F:=ab F;clear hB hS;go_in;go_wp2_with fail;refine(F.out).mono ?_;rintro e w1 ⟨v,rfl,hQ⟩;have HQ:=ab hQ;clear hQ F;go_wp2_with fail;go_ret2;exact⟨v,rfl,HQ.out⟩
structure Ih(w:World)(sb fb:Nat)(g:FM)(X:ByteArray)(s:bZ)(v:Value)(aP:List (Ev×Value))(w':World):Prop where
 cS:eW w' (NQ w w') v X aP
 eq:aP.map (·.1)=s.rest g.ms g.u0 g.G X
 ak:aq w' sb #[.pointer (some ⟨sb,0,none⟩),.pointer none] 79
 kept:aa (fun i=>i=fb\/i=sb) w w'
theorem agx(a:Array Value)(w:World):(callFunc 32 a).run prog w=.ok (.enter 32 a) w:=by kernel_rfl
theorem Ih.of(h:sA w sb fb g X s c au fix)(k1:aa af w w1)(k2:aa af w1 W)(hW:w1.heap.size+3<=W.heap.size)(hC:CC (W.setCell ⟨sb,1,none⟩ (.pointer none)) fb g X s v aP w2)(k3:aa (fun i=>i=w1.heap.size+1\/i=w1.heap.size+2) w2 w3):Ih w sb fb g X s v aP w3:=by
 have cR:=k1.size;have gi:=k2.size;have qG:W.heap.size<=w2.heap.size:=by have:=hC.kept.size;simpa using this
 have pM:=k3.size;have LU:fb<w.heap.size:=by obtain⟨A,hM,_⟩:=h.at_.mem;exact hM.ak.lt
 have I8:=h.ak.lt;have az:sb≠fb:=fun e=>h.ap.1 (Or.inr (Or.inl e))
 have kW:aa af w W:=k1.trans k2;have BW:aq (W.setCell ⟨sb,1,none⟩ (.pointer none)) sb #[.pointer (some ⟨sb,0,none⟩),.pointer none] 79:=(h.ak.kept kW (fun hx=>hx)).setCell 1 (.pointer none);have kx:aa (fun i=>i=fb\/i=sb) w w2:=((kW.mono (S':=fun i=>i=fb\/i=sb) (fun i hx=>hx.elim)).setCell (p:=⟨sb,1,none⟩) (Or.inl (Or.inr rfl)) _).bV hC.kept (fun i _ hx=>Or.inl hx);refine⟨(hC.cS.kept k3 (fun i hi hx=>?_)).mono (fun i hi=>?_) (fun i hi=>hi.2),hC.eq,(BW.kept hC.kept (fun e=>az e)).kept k3 (fun hx=>by omega),kx.bV k3 (fun i hi hx=>by omega)⟩
 ·have:=hi.1;simp at this;omega
 ·have:=hi.1;simp at this;exact⟨by omega,by have:=hi.2;omega⟩
theorem anE(hg:g.Ok)(h:sA w sb fb g X s c au fix)(pK:s.l=[]->s.mt=none)(rE:s.aX=X.size):
 Calls prog 17 #[.pointer (some ⟨sb,0,none⟩)] w fun e w'=>∃v aP,e=.returned (.tuple #[v,.int .i64 0])/\Ih w sb fb g X s v aP w':=by
 have hmf:∀(fn:Fn) (first cap:Array Value) (w:World),(Instr.makeFunc fn first cap).run prog w=.ok (.func fn first cap) w:=fun _ _ _ _=>rfl
 have k1:aa af w (w.alloc (.cells #[.pointer (some ⟨sb,0,none⟩)] 38)):=(aa.refl af w).alloc _;have B3:=aq.new w #[.pointer (some ⟨sb,0,none⟩)] 38;have I8:=h.ak.lt;have LU:fb<w.heap.size:=by obtain⟨A,hM,_⟩:=h.at_.mem;exact hM.ak.lt
 have cR:(w.alloc (.cells #[.pointer (some ⟨sb,0,none⟩)] 38)).heap.size=w.heap.size+1:=by simp
 have F:=abi (w:=w.alloc (.cells #[.pointer (some ⟨sb,0,none⟩)] 38)) (sb:=sb) (fb:=fb) (N:=32) (cv:=.pointer (some ⟨w.heap.size,0,none⟩)) (P:=fun v er w'=>er=0/\∃W aP,aa af (w.alloc (.cells #[.pointer (some ⟨sb,0,none⟩)] 38)) W/\(w.alloc (.cells #[.pointer (some ⟨sb,0,none⟩)] 38)).heap.size+3<=W.heap.size/\CC (W.setCell ⟨sb,1,none⟩ (.pointer none)) fb g X s v aP w') (h.ak.kept k1 (fun hx=>hx)) agx
  (fun W k hW=>by
    have kS:aa (fun i=>i=sb) W (W.setCell ⟨sb,1,none⟩ (.pointer none)):=(aa.refl (fun i=>i=sb) W).setCell (p:=⟨sb,1,none⟩) (Or.inl rfl) _
    have IC:jz (W.setCell ⟨sb,1,none⟩ (.pointer none)) fb g X s c au fix:=(h.at_.new (k1.trans k)).kept kS (fun i hi=>by
     have hi':i=sb:=hi;rw[hi'];exact h.ap)
    refine(agV (Q:=fun v w'=>∃aP,CC (W.setCell ⟨sb,1,none⟩ (.pointer none)) fb g X s v aP w') (B3.kept k (fun hx=>hx)) (h.ak.kept (k1.trans k) (fun hx=>hx)) ((agX hg IC pK rE).mono ?_)).mono ?_
    ·rintro e w' ⟨v,aP,rfl,hC⟩;exact⟨v,rfl,aP,hC⟩
    ·rintro e w' ⟨v,rfl,aP,hC⟩;obtain⟨ao,cc,hv⟩:=cA hC.cS.row;subst hv;refine⟨_,_,_,_,rfl,⟨rfl,W,aP,k,hW,hC⟩,?_⟩;have k2:aa (fun i=>i=fb\/i=sb) W w':=(kS.mono (S':=fun i=>i=fb\/i=sb) (fun i hi=>Or.inr hi)).bV hC.kept (fun i _ hi=>Or.inl hi);refine k2.mono (fun i hi=>Or.inl ?_);omega)
 have F:=ab F;have HF:Hid (∀W w2 w3 v aP,aa af (w.alloc (.cells #[.pointer (some ⟨sb,0,none⟩)] 38)) W->(w.alloc (.cells #[.pointer (some ⟨sb,0,none⟩)] 38)).heap.size+3<=W.heap.size->CC (W.setCell ⟨sb,1,none⟩ (.pointer none)) fb g X s v aP w2->aa (fun i=>i=(w.alloc (.cells #[.pointer (some ⟨sb,0,none⟩)] 38)).heap.size+1\/i=(w.alloc (.cells #[.pointer (some ⟨sb,0,none⟩)] 38)).heap.size+2) w2 w3->Ih w sb fb g X s v aP w3):=fun W w2 w3 v aP k hW hC k3=>Ih.of h k1 k hW hC k3
 clear h pK rE k1 B3 cR;go_in;go_wp2_with fail;refine(F.out).mono ?_;rintro e w4 ⟨v,er,w3,rfl,⟨rfl,W,aP,kW,hW,hC⟩,h3,k3⟩;have HS:=ab (HF.out W w3 w4 v aP kW hW hC k3);clear F HF kW hW hC k3 h3;go_wp2_with fail;go_ret2;exact⟨v,aP,rfl,HS.out⟩
def qO(c:Int)(n:Nat):Nat:=if c<0 then((-(c+1)).tmod n).toNat else(c % n).toNat
theorem Nd(c:Int)(hn:0<n):qO c n<n:=by
 unfold qO;split
 ·have h:=ae6 (-(c+1)) n (by omega) (by omega);omega
 ·have h1:=Int.emod_nonneg c (show(n:Int)≠0 by omega);have h2:=Int.emod_lt_of_pos c (show(0:Int)<n by omega);omega
theorem WD(c:Int)(n:Nat)(w:World)(hn:0<n)(jS:n<=1000000000)(h1: -9223372036854775808<=c)(h2:c<=9223372036854775807):Calls prog 19 #[.int .i64 c,.int .i64 (n:Int)] w fun e w'=>e=.returned (.int .i64 (qO c n:Int))/\w'=w:=by
 have hz:((n:Int)==0)=false:=by simp;omega
 unfold qO;by_cases h0:c<0
 ·rw[if_pos h0];go_in;go_wp2_with fail;go_ret;have h:=ae6 (-(c+1)) n (by omega) (by omega);refine⟨?_,rfl⟩;have e:(((-(c+1)).tmod n).toNat:Int)= -((c+1).tmod n):=by rw[<-Int.neg_tmod];omega
  rw[e];rfl
 ·rw[if_neg h0];have hc:0<=c:=by omega
  go_in
  go_wp2_with fail
  go_ret
  have h1:=Int.emod_nonneg c (show(n:Int)≠0 by omega);refine⟨?_,rfl⟩;have e:max (c % (n:Int)) 0=c % n:=by omega
  rw[e];rfl
theorem adi(w:World)(a b:Int)(ha: -9223372036854775808<=a/\a<=9223372036854775807)(hb: -9223372036854775808<=b/\b<=9223372036854775807):Calls prog 9 #[.int .i64 a,.int .i64 b] w fun e w'=>e=.returned (.agg #[.int .i64 (qO a 3:Int),.int .i64 (2+(qO b 40:Int)),.int .i64 0])/\aa af w w':=by
 have F1:=ab fun(W:World)=>WD a 3 W (by decide) (by decide) ha.1 ha.2
 have F2:=ab fun(W:World)=>WD b 40 W (by decide) (by decide) hb.1 hb.2
 have l1:=Nd a (n:=3) (by decide);have l2:=Nd b (n:=40) (by decide);generalize qO a 3=x at*;generalize qO b 40=y at*;go_in;go_wp2_with fail;refine(F1.out _).mono ?_;rintro e w1 ⟨rfl,rfl⟩;go_wp2_with fail;refine(F2.out _).mono ?_;rintro e w1 ⟨rfl,rfl⟩;go_wp2_with fail;exact Bj (v:=.agg #[.int .i64 (x:Int),.int .i64 (2+(y:Int)),.int .i64 0]) (by simp[results,results9,go_sem]) rfl ⟨rfl,(aa.refl af w).alloc _⟩
theorem aal(w:World)(s:ByteArray):(convert 9 42 (.string s)).run prog w=.ok (.slice (some ⟨w.heap.size,0,none⟩) s.size (grownCap w s.size 0 5)) (Lib.bytesWorld w 5 s):=Lib.run_convert_string_bytes w _ _ _ s underlying9 underlying42 underlying5
theorem Z9(w:World)(e:TypeId)(s:ByteArray):aa af w (Lib.bytesWorld w e s):=⟨rfl,rfl,rfl,by rw[Lib.bytesWorld_size];omega,fun k hk _=>Lib.bytesWorld_at_old w e s k hk⟩
theorem Z8(w:World)(e:TypeId)(s:ByteArray){cap:Nat}(hc:s.size<=cap):jL (Lib.bytesWorld w e s) (.slice (some ⟨w.heap.size,0,none⟩) s.size cap) s:=by
 refine Or.inr ⟨w.heap.size,0,cap,rfl,hc,fun j hj=>?_⟩;rw[Ba,Lib.bytesWorld_cell w e s j hj];have hl:j<s.data.toList.length:=by simpa using hj
 rw[List.getD,Ae hl,Utf8W.get!_of_lt s j hj];rfl
theorem ahB{T T':Nat->iH}{b:Nat->Int}{op:Bool}(h:∀i,i<=n->T i=T' i):∀(k i:Nat) (told:Int),j9 T n b op k i told=j9 T' n b op k i told:=by
 intro k;induction k with
 |zero=>intro i told;rfl
 |succ k ih=>
  intro i told;unfold j9;by_cases hn:n<i
  ·rw[if_pos hn,if_pos hn]
  ·rw[if_neg hn,if_neg hn,h i (by omega)]
   cases T' i with
   |none=>exact ih _ _
   |some v=>
    obtain⟨j,gs⟩:=v;simp only;rw[ih,ih,ih]
theorem Rh(h:KD p X g):bZ.new.rest g.ms g.u0 g.G X=rq p X:=by
 have hb:(aM X).aW=aN X:=by funext i;unfold CX.aW aM aN;simp
 have kh:nO (eG g.ms (aM X) g.u0 g.G) (aF X).length:=wh h.ok.ft (aM X) h.ok.u0 g.G;have aiK:nO (Hf (lA p) (gG p) (ig X)) (aF X).length:=fun i j gs hi e=>kh i j gs hi (by rw[h.iy i hi];exact e)
 have e1:=aaP (s:=X) aiK;unfold bZ.rest bZ.new rq;rw[<-e1];show(eM (eG g.ms (aM X) g.u0 g.G) (aF X).length (aN X) false 0 (-1)).1=(eM (Hf (lA p) (gG p) (ig X)) (aF X).length (aM X).aW false 0 (-1)).1
 rw[hb];unfold eM;rw[ahB h.iy]
def JW(p X:ByteArray):Prop:=(∀e∈rq p X,e.gs.length=2*gG p)/\gG p<=100000/\(rq p X).length<=100000000
theorem KD.gs(h:KD p X g)(hX:X.size<=10000000):JW p X:=by
 have hr:=Nm X;refine⟨fun e he=>?_,by rw[<-h.G];exact h.ok.G,by rw[<-Rh h];have:=WM g.ms g.u0 g.G X bZ.new;omega⟩;rw[<-Rh h]at he;unfold bZ.rest at he;refine TC (P:=fun e=>e.gs.length=2*gG p) (wh h.ok.ft (aM X) h.ok.u0 g.G) (fun i q gq hi hq=>?_) _ _ _ e he;have:=BZ h.ok.ft (aM X) h.ok.u0 hi _ _ _ hq;rw[this.2.2,<-h.G];simp[gH]
structure qh(w w0:World)(sb fb:Nat)(g:FM)(X:ByteArray)(fix:Nat->Prop)(R0:List Ev)(J:bZ->Prop)(s:bZ)(c:FC)(au O:Nat->Prop)(v:Value)(aP:List (Ev×Value))(wr:World):Prop where
 at_:sA wr sb fb g X s c au fix
 cS:eW wr O v X aP
 ap:∀i,O i->¬FO fb c au i/\i≠sb/\w0.heap.size<=i
 au:∀i,FO fb c au i\/i=sb->w.heap.size<=i
 kept:aa af w wr
 rest:R0=aP.map (·.1)++s.rest g.ms g.u0 g.G X
 fu:s.l=[]->s.mt=none
 wn:c.wn=0
 fx:∀i,fix i\/g.cI i->i<w0.heap.size
 sz:w.heap.size<=w0.heap.size/\w0.heap.size<=wr.heap.size
 j:J s
theorem qh.new(h:qh w w0 sb fb g X fix R0 J s c au O v aP wr)(k:aa af wr w'):qh w w0 sb fb g X fix R0 J s c au O v aP w':=
 ⟨h.at_.new k,h.cS.new k,h.ap,h.au,h.kept.trans k,h.rest,h.fu,h.wn,h.fx,⟨h.sz.1,Be h.sz.2 k.size⟩,h.j⟩
theorem qh.aX(h:qh w w0 sb fb g X fix R0 J s c au O v aP wr)(hF:zD wr sb fb g X s n c au fix J v2 gS s' c' cJ O2 w2):
 eW w2 O v X aP/\(∀i,O i->¬FO fb c' cJ i/\i≠sb/\w0.heap.size<=i)/\(∀i,O2 i->¬FO fb c' cJ i/\i≠sb/\w0.heap.size<=i)/\(∀i,FO fb c' cJ i\/i=sb->w.heap.size<=i)/\aa af w w2/\R0=(aP++gS).map (·.1)++s'.rest g.ms g.u0 g.G X/\c'.wn=0/\w0.heap.size<=w2.heap.size:=by
 have hs:=hF.dD.kept.size;have I8:=h.at_.ak.lt;have hws:=h.kept.size;refine⟨h.cS.kept hF.dD.kept (fun i hi=>(h.ap i hi).1),fun i hi=>⟨fun hf=>?_,(h.ap i hi).2⟩,fun i hi=>⟨(hF.ap i hi).2,?_,?_⟩,fun i hi=>?_,h.kept.bV hF.dD.kept (fun i hi hx=>by have:=h.au i (Or.inl hx);omega),?_,by rw[hF.wn];exact h.wn,by have:=h.sz;omega⟩
 ·exact(hF.dD.ak i hf).elim (h.ap i hi).1 (fun hx=>by have:=h.cS.lt i hi;omega)
 ·have:=(hF.ap i hi).1;omega
 ·have:=(hF.ap i hi).1;have:=h.sz;omega
 ·rcases hi with hi|hi
  ·exact(hF.dD.ak i hi).elim (fun hx=>h.au i (Or.inl hx)) (fun hx=>by omega)
  ·exact h.au i (Or.inr hi)
 ·rw[h.rest,hF.rest,Ch,Bw]
theorem qh.aaT(h:qh w w0 sb fb g X fix R0 J s c au O v aP wr)(hF:zD wr sb fb g X s n c au fix J v2 gS s' c' cJ O2 w2)
 (bk:w3.ownsRow 0 46 4 v3 (aP.length+gS.length) (gN X aP++gN X gS))(hg:w2.grownBy w3 v.ownBlock)(iT:v3.ownBlock=v.ownBlock\/v3.ownBlock=some w2.heap.size):∃O',qh w w0 sb fb g X fix R0 J s' c' cJ O' v3 (aP++gS) w3:=by
 obtain⟨e1,e2,e3,e4,e5,e6,e7,e8⟩:=h.aX hF;obtain⟨E2,K2⟩:=e1.append hF.cS (aa.refl af w2) bk hg iT;have Mv:∀i,v.ownBlock=some i->O i:=h.cS.Ha
 have aw:∀i,FO fb c' cJ i->i<w2.heap.size:=fun i hi=>by obtain⟨A,hM,_⟩:=hF.at_.at_.mem;exact hM.lt (Or.inl hi)
 have aqb:=hF.at_.ak.lt;refine⟨_,hF.at_.kept K2 (fun i hi=>?_),E2,fun i hi=>?_,e4,e5.bV K2 (fun i hi hx=>?_),e6,hF.fu,e7,h.fx,⟨h.sz.1,Be e8 K2.size⟩,hF.j⟩
 ·have:=e2 i (Mv i hi);exact⟨this.2.1,this.1,fun hf=>by have:=h.fx i (Or.inl hf);omega,fun hf=>by have:=h.fx i (Or.inr hf);omega⟩
 ·rcases hi with hi|hi|⟨hi,_⟩
  ·exact e2 i hi
  ·exact e3 i hi
  ·exact⟨fun hf=>by have:=aw i hf;omega,by omega,by omega⟩
 ·have:=(e2 i (Mv i hx)).2.2;have:=h.sz;omega
theorem qh.aaU(h:qh w w0 sb fb g X fix R0 J s c au O v aP wr)(hF:zD wr sb fb g X s n c au fix J v2 [] s' c' cJ O2 w2):qh w w0 sb fb g X fix R0 J s' c' cJ O v aP w2:=by
 obtain⟨e1,e2,e3,e4,e5,e6,e7,e8⟩:=h.aX hF;rw[Ei]at e6;exact⟨hF.at_,e1,e2,e4,e5,e6,hF.fu,e7,h.fx,⟨h.sz.1,e8⟩,hF.j⟩
theorem qh.OU(h:qh w w0 sb fb g X fix R0 J s c au O v aP wr)(hC:Ih wr sb fb g X s v2 gS w2):
 eW w2 O v X aP/\aa af w w2/\R0=(aP++gS).map (·.1)/\∀i,O i->w.heap.size<=i:=by
 refine⟨h.cS.kept hC.kept (fun i hi hx=>?_),h.kept.bV hC.kept (fun i hi hx=>?_),?_,fun i hi=>by have:=(h.ap i hi).2.2;have:=h.sz;omega⟩
 ·rcases hx with hx|hx
  ·exact(h.ap i hi).1 (Or.inr (Or.inl hx))
  ·exact(h.ap i hi).2.1 hx
 ·have:w.heap.size<=i:=hx.elim (fun e=>h.au i (Or.inl (Or.inr (Or.inl e)))) (fun e=>h.au i (Or.inr e));omega
 ·rw[h.rest,Ch,hC.eq]
theorem eW.agY(e:eW w2 O v X aP)(e2:eW w2 O2 v2 X gS)(k:aa af w w2)(hO:∀i,O i->w.heap.size<=i)
 (bk:w3.ownsRow 0 46 4 v3 (aP.length+gS.length) (gN X aP++gN X gS))(hg:w2.grownBy w3 v.ownBlock)(iT:v3.ownBlock=v.ownBlock\/v3.ownBlock=some w2.heap.size):∃O',eW w3 O' v3 X (aP++gS)/\aa af w w3:=by
 obtain⟨E2,K2⟩:=e.append e2 (aa.refl af w2) bk hg iT;exact⟨_,E2,k.bV K2 (fun i hi hx=>by have:=hO i (e.Ha i hx);omega)⟩
theorem abc(g:FM)(X:ByteArray):NS g X (fun _=>True):=⟨fun _ _ _ _ _ _ _ _=>trivial,fun _ _ _ _ _ _ _=>trivial,fun _ _ _=>trivial⟩
theorem aeG(s:ByteArray)(a b:Nat)(h:a<=b)(hb:b<=s.size)(wx:World):(Instr.slice 9 (.string s) (some (.int .i64 (a:Int))) (some (.int .i64 (b:Int))) none).run prog wx=.ok (.string (s.extract a b)) wx:=by
 have:=run_slice_string (P:=prog) wx 9 s .i64 .i64 (a:Int) (b:Int) underlying9 (by omega) (by omega) (by omega);simpa using this
def ZD(w:World)(p X:ByteArray)(e:Ending)(w':World):Prop:=aa af w w'/\((fN p≠0/\e=.returned (.tuple #[.slice none 0 0,.int .i64 (fN p)]))\/(fN p=0/\∃(v:Value) (aP:List (Ev×Value)) (O:Nat->Prop),e=.returned (.tuple #[v,.int .i64 0])/\eW w' O v X aP/\aP.map (·.1)=rq p X/\JW p X))
theorem aeU(p X:ByteArray)(w:World)(hp:p.size<=maxLen)(hX:X.size<=10000000)(hT:ik w)(o1 o2:Int)(ho:th o1 o2 0=true){sv:Value}{zs:List Int}(hR:If w sv zs)(hz:zs.length<=10000000):
 Calls prog 8 #[.string p,.agg #[.int .i64 o1,.int .i64 o2,.int .i64 0],.string X,sv] w (ZD w p X):=by
 have k0:aa af w (w.alloc (.cells #[.int .i64 o1,.int .i64 o2,.int .i64 0] 30)):=(aa.refl af w).alloc _;have F:=ab (alw p X (w.alloc (.cells #[.int .i64 o1,.int .i64 o2,.int .i64 0] 30)) hp hX (hT.iU k0) o1 o2 0 ho);have HR:=ab hR;obtain⟨ie,mK,Gs,kt,AD⟩:=Bo Tryz.VE
 obtain⟨sa,sc,pd⟩:∃sa sc,sv=.slice sa zs.length sc:=by
  rcases hR with⟨e1,e2⟩|⟨a,c,e1,_⟩
  ·exact⟨none,0,by rw[e1,e2];rfl⟩
  ·exact⟨_,_,e1⟩
 subst pd;have K0:=ab k0;obtain⟨nz,YQ⟩:∃nz,Hid (zs.length=nz):=⟨_,(rfl:_=_)⟩
 rw[YQ.out]at hz⊢;clear hR hT ho k0;go_in;go_wp2_with fail;generalize(w.alloc (.cells #[.int .i64 o1,.int .i64 o2,.int .i64 0] 30))=w00 at*;refine(F.out).mono ?_;rintro e w1 ⟨k1,⟨az,rfl⟩|⟨he,sb,fb,g,c,au,fix,rfl,hS,hP,hw,hO⟩⟩
 ·obtain⟨pe,qW⟩:∃pe,Hid (fN p=pe):=⟨_,(rfl:_=_)⟩
  rw[qW.out]at az⊢;have Va:(pe !=0)=true:=by simpa using az
  have HE:=ab az;have K1:=ab (K0.out.trans k1);clear F k1 az;go_wp2_with fail;go_ret2;exact⟨K1.out,Or.inl ⟨by rw[qW.out];exact HE.out,by rw[qW.out];rfl⟩⟩
 ·have dr:Hid (qh w w1 sb fb g X fix (rq p X) (fun _=>True) bZ.new c au af (.slice none 0 0) [] w1):=by
   have hk:=K0.out.trans k1;refine⟨hS,eW.nil w1 X,fun i hx=>hx.elim,fun i hi=>Be K0.out.size (hO i hi),hk,(Rh hP).symm,fun _=>rfl,hw,fun i hi=>?_,⟨hk.size,Ab _⟩,trivial⟩;obtain⟨A,hM,_⟩:=hS.at_.mem;exact hM.lt (Or.inr hi)
  have HE:=ab he;have kZ:=ab hP.ok;have Yx:=ab (hP.gs hX);have hR0:(rq p X).length<=(aF X).length+1:=by rw[<-Rh hP];exact WM _ _ _ _ _
  have hRL:=Nm X;clear F hS hP hw hO k1 he;go_wp2_with fail;go_loopg [12,13,14] (nz+1) (fun kk v12 v13 v14 wr=>∃(i:Nat) (s:bZ) (c:FC) (au O:Nat->Prop) (aP:List (Ev×Value)),kk=nz+1-i/\i<=nz+1/\v13=.int .i64 (s.aX:Int)/\v14=.int .i64 (i:Int)/\Hid (qh w w1 sb fb g X fix (rq p X) (fun _=>True) s c au O v12 aP wr)/\Hid (i=nz+1->s.aX=X.size))
  case atStart=>exact⟨0,bZ.new,c,au,af,[],rfl,Am _,rfl,rfl,dr,ab (fun h=>by omega)⟩
  case round=>
   obtain⟨i,s,c2,aqs,O,aP,eT,hi,rfl,rfl,HI,Yr⟩:=hrel;clear dr;have hfx:=HI.out.at_.at_.ok.fx;by_cases dR:i<=nz
   ·have hin':(i:Int)<=(nz:Int):=(by omega);rcases(show i<nz\/i=nz by omega)with aw|heq
    case' inl=>
     have U7:(i:Int)<(nz:Int):=by omega
     obtain⟨a,rC,I5,rK,rfl⟩:∃a:Addr,wr.cell? (a.add i)=some (.int .i64 (zs.getD i 0))/\ -9223372036854775808<=zs.getD i 0/\zs.getD i 0<=9223372036854775807/\sa=some a:=by
      have sR:i<zs.length:=by rw[YQ.out];exact aw
      rcases HR.out.kept HI.out.kept with⟨e1,e2⟩|⟨a,cc,e1,e2,e3,e4⟩
      ·rw[e2]at sR;simp at sR
      ·have hm:=e4 (zs.getD i 0) (by simp[Af,sR]);refine⟨a,e3 i sR,hm.1,hm.2,?_⟩;simp only[Bi]at e1;exact e1.1
     have F1:=(ab fun(W:World)=>WD (zs.getD i 0) 9 W (by decide) (by decide) I5 rK);have UY:=Nd (zs.getD i 0) (n:=9) (by decide);clear I5 rK;generalize zs.getD i 0=z at*;generalize qO z 9=k at*;go_wp2_with fail;refine(F1.out _).mono ?_;rintro e wr2 ⟨rfl,rO⟩;rw[rO];clear rO wr2;by_cases hto:s.aX+k<X.size
     case pos=>
      have ajx:(s.aX:Int)+(k:Int)<(X.size:Int):=(by omega);go_wp2_with fail;refine(F1.out _).mono ?_;rintro e wr2 ⟨rfl,rO⟩;rw[rO];clear rO wr2;clear F1
      have fM:∀W,(Instr.slice 9 (.string X) (some (.int .i64 (s.aX:Int))) (some (.int .i64 ((s.aX:Int)+(k:Int)))) none).run prog W=.ok (.string (X.extract s.aX (s.aX+(k)))) W:=fun W=>by
       have:=aeG X s.aX (s.aX+(k)) (by omega) (by omega) W;rwa[show((s.aX+(k):Nat):Int)=(s.aX:Int)+(k:Int) by omega]at this
      obtain⟨part,Gh⟩:∃part,part=X.extract s.aX (s.aX+(k)):=⟨_,rfl⟩
      rw[<-Gh]at fM;have LP:∀W,(convert 9 42 (.string part)).run prog W=.ok (.slice (some ⟨W.heap.size,0,none⟩) part.size (grownCap W part.size 0 5)) (Lib.bytesWorld W 5 part):=(fun W=>aal W part);have kb:=Z9 wr 5 part
      have HB:=ab (HI.out.new kb);have F2:=ab (aeH (n:=k) (J:=fun _=>True) kZ.out HB.out.at_ HB.out.fu (by omega) (by rw[<-Gh];exact Z8 wr 5 part (grownCap_ge wr part.size 0 5)) (abc g X) trivial HB.out.wn);obtain⟨ao,cv,Mu⟩:=cA HI.out.cS.row;subst Mu;have N5:Hid (nz+1-i=nz+1-i):=rfl;clear kb HI Gh;go_wp2_with fail;generalize Lib.bytesWorld wr 5 part=wb at*;refine(F2.out).mono ?_;rintro e w2 ⟨v2,gS,s2,c3,GX,O2,rfl,hF⟩;clear F2 fM LP
      have cT:aP.length+gS.length<=10000001:=by
       have h1:=congrArg List.length HB.out.rest;have h2:=congrArg List.length hF.rest;simp only[Aj,Co]at h1 h2;omega
      have rE:s2.aX=s.aX+k:=by have:=hF.aX;omega
      have xR:=ab rE;clear rE;rcases hF.cS.cell with⟨rfl,rfl⟩|⟨eg,ec,rfl,UK,jE⟩
      ·have oI:=ab (HB.out.aaU hF);have fi:Hid (w2.ownsRow 0 46 4 (.slice ao aP.length cv) aP.length (gN X aP)):=oI.out.cS.row;clear hF HB cT;go_wp2_with (at_builtin;refine C3 rfl _ _ 24 rfl 0 46 ie 4 underlying24 mK _ _ _ rfl fi.out rfl ?_);go_roundg (nz+1-(i+1))
       case measure=>omega
       case rel=>exact⟨i+1,s2,c3,GX,O,aP,rfl,by omega,by rw[xR.out];go_num,by go_num,oI,ab (fun h=>by rw[xR.out];omega)⟩
      ·have uP:=(ab fun(w7:World) (v7:Value) a b d=>HB.out.aaT (v3:=v7) (w3:=w7) hF a b d);have fi:Hid (w2.ownsRow 0 46 4 (.slice ao aP.length cv) aP.length (gN X aP)):=(HB.out.aX hF).1.row;have HC:=ab (And.intro jE (And.intro hF.cS.one (O8 X gS)));clear hF HB jE;go_wp2_with (at_builtin;refine Ao _ rfl _ _ 24 rfl 0 46 ie _ 4 56 underlying24 mK Gs kt AD rfl (by decide) _ _ _ rfl fi.out ⟨eg,0,none⟩ gS.length ec (gN X gS) rfl ?c0 ?c1 ?c2 ?c3 ?c4 ?c5 ?_)
       case c0=>exact HC.out.2.2
       case c1=>exact HC.out.1
       case c2=>exact HC.out.2.1
       case c3=>unfold maxLen;omega
       case c4=>omega
       case c5=>exact Am _
       intro v7 w7 kj vD FX vw;obtain⟨O7,vt⟩:=uP.out w7 v7 kj vD vw;have sr:=ab vt;obtain⟨ZO,cv7,xk⟩:=cA kj;clear uP HC fi kj vD FX vw vt;subst xk;go_wp2_with fail;go_roundg (nz+1-(i+1))
       case measure=>omega
       case rel=>exact⟨i+1,s2,c3,GX,O7,aP++gS,rfl,by omega,by rw[xR.out];go_num,by go_num,sr,ab (fun h=>by rw[xR.out];omega)⟩
     case' neg=>
      have ajx:¬(s.aX:Int)+(k:Int)<(X.size:Int):=(by omega);clear F1
    case' inr=>
     have U7:¬(i:Int)<(nz:Int):=by omega
    all_goals
     have fM:∀W,(Instr.slice 9 (.string X) (some (.int .i64 (s.aX:Int))) (some (.int .i64 ((X.size:Int)))) none).run prog W=.ok (.string (X.extract s.aX (s.aX+(X.size-s.aX)))) W:=fun W=>by
      have:=aeG X s.aX (s.aX+(X.size-s.aX)) (by omega) (by omega) W;rwa[show((s.aX+(X.size-s.aX):Nat):Int)=(X.size:Int) by omega]at this
     obtain⟨part,Gh⟩:∃part,part=X.extract s.aX (s.aX+(X.size-s.aX)):=⟨_,rfl⟩
     rw[<-Gh]at fM;have LP:∀W,(convert 9 42 (.string part)).run prog W=.ok (.slice (some ⟨W.heap.size,0,none⟩) part.size (grownCap W part.size 0 5)) (Lib.bytesWorld W 5 part):=(fun W=>aal W part);have kb:=Z9 wr 5 part
     have HB:=ab (HI.out.new kb);have F2:=ab (aeH (n:=X.size-s.aX) (J:=fun _=>True) kZ.out HB.out.at_ HB.out.fu (by omega) (by rw[<-Gh];exact Z8 wr 5 part (grownCap_ge wr part.size 0 5)) (abc g X) trivial HB.out.wn);obtain⟨ao,cv,Mu⟩:=cA HI.out.cS.row;subst Mu;have N5:Hid (nz+1-i=nz+1-i):=rfl;clear kb HI Gh;go_wp2_with fail;generalize Lib.bytesWorld wr 5 part=wb at*;refine(F2.out).mono ?_;rintro e w2 ⟨v2,gS,s2,c3,GX,O2,rfl,hF⟩;clear F2 fM LP
     have cT:aP.length+gS.length<=10000001:=by
      have h1:=congrArg List.length HB.out.rest;have h2:=congrArg List.length hF.rest;simp only[Aj,Co]at h1 h2;omega
     have rE:s2.aX=X.size:=by have:=hF.aX;omega
     have xR:=ab rE;clear rE;rcases hF.cS.cell with⟨rfl,rfl⟩|⟨eg,ec,rfl,UK,jE⟩
     ·have oI:=ab (HB.out.aaU hF);have fi:Hid (w2.ownsRow 0 46 4 (.slice ao aP.length cv) aP.length (gN X aP)):=oI.out.cS.row;clear hF HB cT;go_wp2_with (at_builtin;refine C3 rfl _ _ 24 rfl 0 46 ie 4 underlying24 mK _ _ _ rfl fi.out rfl ?_);go_roundg (nz+1-(i+1))
      case measure=>omega
      case rel=>exact⟨i+1,s2,c3,GX,O,aP,rfl,by omega,by rw[xR.out],by go_num,oI,ab (fun h=>by rw[xR.out])⟩
     ·have uP:=(ab fun(w7:World) (v7:Value) a b d=>HB.out.aaT (v3:=v7) (w3:=w7) hF a b d);have fi:Hid (w2.ownsRow 0 46 4 (.slice ao aP.length cv) aP.length (gN X aP)):=(HB.out.aX hF).1.row;have HC:=ab (And.intro jE (And.intro hF.cS.one (O8 X gS)));clear hF HB jE;go_wp2_with (at_builtin;refine Ao _ rfl _ _ 24 rfl 0 46 ie _ 4 56 underlying24 mK Gs kt AD rfl (by decide) _ _ _ rfl fi.out ⟨eg,0,none⟩ gS.length ec (gN X gS) rfl ?c0 ?c1 ?c2 ?c3 ?c4 ?c5 ?_)
      case c0=>exact HC.out.2.2
      case c1=>exact HC.out.1
      case c2=>exact HC.out.2.1
      case c3=>unfold maxLen;omega
      case c4=>omega
      case c5=>exact Am _
      intro v7 w7 kj vD FX vw;obtain⟨O7,vt⟩:=uP.out w7 v7 kj vD vw;have sr:=ab vt;obtain⟨ZO,cv7,xk⟩:=cA kj;clear uP HC fi kj vD FX vw vt;subst xk;go_wp2_with fail;go_roundg (nz+1-(i+1))
      case measure=>omega
      case rel=>exact⟨i+1,s2,c3,GX,O7,aP++gS,rfl,by omega,by rw[xR.out],by go_num,sr,ab (fun h=>by rw[xR.out])⟩
   ·have hin':¬(i:Int)<=(nz:Int):=(by omega);have PD:=Yr.out (by omega);have F3:=ab (anE kZ.out HI.out.at_ HI.out.fu PD);obtain⟨ao,cv,Mu⟩:=cA HI.out.cS.row;subst Mu;clear Yr PD;go_wp2_with fail;refine(F3.out).mono ?_;rintro e w2 ⟨v2,gS,rfl,hC⟩;clear F3;obtain⟨e1,e2,e3,e4⟩:=HI.out.OU hC
    have cT:aP.length+gS.length<=10000001:=by
     have h1:=congrArg List.length e3;simp only[Aj,Co]at h1;omega
    rcases hC.cS.cell with⟨rfl,rfl⟩|⟨eg,ec,rfl,UK,jE⟩
    ·have fi:Hid (w2.ownsRow 0 46 4 (.slice ao aP.length cv) aP.length (gN X aP)):=e1.row;have ax:Hid (aa af w w2/\eW w2 O (.slice ao aP.length cv) X aP/\aP.map (·.1)=rq p X):=⟨e2,e1,by rw[Ei]at e3;exact e3.symm⟩;clear hC HI cT e1 e2 e3 e4;go_wp2_with (at_builtin;refine C3 rfl _ _ 24 rfl 0 46 ie 4 underlying24 mK _ _ _ rfl fi.out rfl ?_);go_ret2;exact⟨ax.out.1,Or.inr ⟨HE.out,_,aP,O,rfl,ax.out.2.1,ax.out.2.2,Yx.out⟩⟩
    ·have uP:=(ab fun(w7:World) (v7:Value) a b d=>eW.agY (v3:=v7) (w3:=w7) e1 hC.cS e2 e4 a b d);have fi:Hid (w2.ownsRow 0 46 4 (.slice ao aP.length cv) aP.length (gN X aP)):=e1.row;have HC:=ab (And.intro jE (And.intro hC.cS.one (O8 X gS)));have CL:=ab e3;clear hC HI jE e1 e2 e3 e4;go_wp2_with (at_builtin;refine Ao _ rfl _ _ 24 rfl 0 46 ie _ 4 56 underlying24 mK Gs kt AD rfl (by decide) _ _ _ rfl fi.out ⟨eg,0,none⟩ gS.length ec (gN X gS) rfl ?c0 ?c1 ?c2 ?c3 ?c4 ?c5 ?_)
     case c0=>exact HC.out.2.2
     case c1=>exact HC.out.1
     case c2=>exact HC.out.2.1
     case c3=>unfold maxLen;omega
     case c4=>omega
     case c5=>exact Am _
     intro v7 w7 kj vD FX vw;obtain⟨O7,vt,k7⟩:=uP.out w7 v7 kj vD vw;have sr:=ab (And.intro vt k7);clear uP HC fi kj vD FX vw vt k7;go_wp2_with fail;go_ret2;exact⟨sr.out.2,Or.inr ⟨HE.out,_,aP++gS,O7,rfl,sr.out.1,CL.out.symm,Yx.out⟩⟩
def H_(w:World)(v:Value)(xs:List Int):Prop:=(v=.slice none 0 0/\xs=[])\/∃g c,v=.slice (some ⟨g,0,none⟩) xs.length c/\aq w g (cH xs).toArray 3
theorem H_.kept(h:H_ w v xs)(k:aa af w w'):H_ w' v xs:=by
 rcases h with h|⟨g,c,h1,h2⟩
 ·exact Or.inl h
 ·exact Or.inr ⟨g,c,h1,h2.kept k (fun h=>h)⟩
theorem ani{ga gb ca cb:Nat}(ha:aq w ga (cH xs).toArray 3)(hb:aq w gb (cH ys).toArray 3)(hx:xs.length=n)(hy:ys.length=n)(hn:n<=1000000):
 Calls prog 20 #[.slice (some ⟨ga,0,none⟩) n ca,.slice (some ⟨gb,0,none⟩) n cb] w fun e w'=>e=.returned (.bool (decide (xs=ys)))/\∃m,w'=w.drewN m:=by
 have HA:=ab ha;have HB:=ab hb;have HX:=ab hx;have HY:=ab hy;clear ha hb hx hy;go_enter func20,ntmps20;go_wp2_with fail;go_loopg [5] n (fun kk i wr=>∃j:Nat,i=.int .i64 j/\j<=n/\kk=n-j/\Hid (xs.take j=ys.take j)/\∃m,wr=w.drewN m)
 case atStart=>exact⟨0,rfl,Am _,rfl,rfl,0,rfl⟩
 case round=>
  obtain⟨j,rfl,hj,rfl,HT,m,rfl⟩:=hrel;by_cases aw:j<n
  ·have d1:w.cell? ⟨ga,j,none⟩=some (.int .i64 (xs.getD j 0)):=Qw HA.out j (by rw[HX.out];exact aw);have d2:w.cell? ⟨gb,j,none⟩=some (.int .i64 (ys.getD j 0)):=Qw HB.out j (by rw[HY.out];exact aw);obtain⟨x,CY⟩:∃x,Hid (xs.getD j 0=x):=⟨_,(rfl:_=_)⟩
   obtain⟨y,CZ⟩:∃y,Hid (ys.getD j 0=y):=⟨_,(rfl:_=_)⟩
   rw[CY.out]at d1;rw[CZ.out]at d2;by_cases e:x=y
   ·subst e;go_wp2_with fail;go_big_quiet (fail);go_wp2_with fail;go_roundg (n-(j+1))
    case measure=>omega
    case rel=>exact⟨j+1,by simp,by omega,rfl,ae2 HT.out (by rw[HX.out];exact aw) (by rw[HY.out];exact aw) (CY.out.trans CZ.out.symm),m+nq,by first|rfl|rw[World.drewN_drewN]⟩
   ·have az:(x !=y)=true:=(by simpa using e);have HE:=ab e;clear e;go_wp2_with fail;go_big_quiet (fail);go_wp2_with fail;go_ret;exact⟨by rw[Bd];(try rfl);rintro rfl;exact HE.out (CY.out.symm.trans CZ.out),m+nq,by first|rfl|rw[World.drewN_drewN]⟩
  ·have mg:j=n:=(by omega);subst mg;go_wp2_with fail;go_ret;have h1:=HT.out;rw[By (by rw[HX.out];exact Ab _),By (by rw[HY.out];exact Ab _)]at h1;exact⟨by rw[Cx h1]<;>rfl,m,rfl⟩
theorem ank(oa ob:Option Addr)(n m ca cb:Nat)(w:World)(h:n≠m)(hn:n<=1000000)(hm:m<=1000000):Calls prog 20 #[.slice oa n ca,.slice ob m cb] w fun e w'=>e=.returned (.bool false)/\w'=w:=by
 have hb:((n:Int) != (m:Int))=true:=by simp;omega
 go_enter func20,ntmps20
 go_wp2_with fail
 go_ret
 exact⟨rfl,rfl⟩
theorem anl(oa ob:Option Addr)(ca cb:Nat)(w:World):Calls prog 20 #[.slice oa 0 ca,.slice ob 0 cb] w fun e w'=>e=.returned (.bool true)/\w'=w:=by
 go_enter func20,ntmps20
 go_wp2_with fail
 go_loopg [5] 0 (fun kk i wr=>kk=0/\i=.int .i64 0/\wr=w)
 case atStart=>exact⟨rfl,rfl,rfl⟩
 case round=>
  obtain⟨rfl,rfl,rfl⟩:=hrel;go_wp2_with fail;go_ret;exact⟨rfl,rfl⟩
theorem anj(ha:H_ w va xs)(hb:H_ w vb ys)(hn:xs.length<=1000000)(hm:ys.length<=1000000):Calls prog 20 #[va,vb] w fun e w'=>e=.returned (.bool (decide (xs=ys)))/\∃m,w'=w.drewN m:=by
 have key:∀(oa ob:Option Addr) (ca cb:Nat),va=.slice oa xs.length ca->vb=.slice ob ys.length cb->xs.length≠ys.length\/(xs=[]/\ys=[])->Calls prog 20 #[va,vb] w fun e w'=>e=.returned (.bool (decide (xs=ys)))/\∃m,w'=w.drewN m:=by
  rintro oa ob ca cb rfl rfl (h|⟨rfl,rfl⟩)
  ·refine(ank oa ob _ _ ca cb w h hn hm).mono ?_;rintro e w' ⟨rfl,rfl⟩;exact⟨by rw[Bd (fun e=>h (congrArg List.length e))],0,rfl⟩
  ·refine(anl oa ob ca cb w).mono ?_;rintro e w' ⟨rfl,rfl⟩;exact⟨rfl,0,rfl⟩
 rcases ha with⟨rfl,rfl⟩|⟨g,c,rfl,h2⟩<;>rcases hb with⟨rfl,rfl⟩|⟨g',c',rfl,h4⟩
 ·exact key none none 0 0 rfl rfl (Or.inr ⟨rfl,rfl⟩)
 ·by_cases h:ys=[]
  ·exact key none (some ⟨g',0,none⟩) 0 c' rfl rfl (Or.inr ⟨rfl,h⟩)
  ·exact key none (some ⟨g',0,none⟩) 0 c' rfl rfl (Or.inl (fun e=>h (Aw.1 e.symm)))
 ·by_cases h:xs=[]
  ·exact key (some ⟨g,0,none⟩) none c 0 rfl rfl (Or.inr ⟨h,rfl⟩)
  ·exact key (some ⟨g,0,none⟩) none c 0 rfl rfl (Or.inl (fun e=>h (Aw.1 e)))
 ·by_cases h:xs.length=ys.length
  ·have F:=ani (ca:=c) (cb:=c') (n:=xs.length) h2 h4 rfl h.symm hn;rw[<-h];exact F
  ·exact key (some ⟨g,0,none⟩) (some ⟨g',0,none⟩) c c' rfl rfl (Or.inl h)
structure Hn(w:World)(v:Value)(n:Nat)(A B:Nat->Int)(GV:Nat->Value)(GS:Nat->List Int)(TX:Nat->ByteArray):Prop where
 val:(n=0/\∃o c,v=.slice o 0 c)\/∃g c,v=.slice (some ⟨g,0,none⟩) n c/\g<w.heap.size/\
  (∀k,k<n->w.cell? ⟨g,k*4,none⟩=some (.int .i64 (A k))/\w.cell? ⟨g,k*4+1,none⟩=some (.int .i64 (B k))/\w.cell? ⟨g,k*4+2,none⟩=some (GV k)/\w.cell? ⟨g,k*4+3,none⟩=some (.string (TX k)))
 gv:∀k,k<n->H_ w (GV k) (GS k)/\(GS k).length<=1000000
theorem Hn.kept(h:Hn w v n A B GV GS TX)(k:aa af w w'):Hn w' v n A B GV GS TX:=by
 refine⟨?_,fun i hi=>⟨(h.gv i hi).1.kept k,(h.gv i hi).2⟩⟩;rcases h.val with h|⟨g,c,h1,h2,h3⟩
 ·exact Or.inl h
 ·have kc:∀i,w'.cell? ⟨g,i,none⟩=w.cell? ⟨g,i,none⟩:=fun i=>k.cell (p:=⟨g,i,none⟩) h2 (fun h=>h)
  exact Or.inr ⟨g,c,h1,Ar h2 k.size,fun i hi=>⟨(kc _).trans (h3 i hi).1,(kc _).trans (h3 i hi).2.1,(kc _).trans (h3 i hi).2.2.1,(kc _).trans (h3 i hi).2.2.2⟩⟩
theorem anm{R9:Nat->Value}{NR:Nat->List Int}(gr:Bool)(ha:Hn w va n A B GV GS TX)(hb:Hn w vb n A B R9 NR TX)(hn:n<=100000000)(hg:gr=true->∀k,k<n->GS k=NR k):
 Calls prog 11 #[va,vb,.bool gr] w fun e w'=>e=.returned (.bool true)/\aa af w w':=by
 have H1:=ab ha;have H2:=ab hb;have HG:=ab hg;by_cases h0:n=0
 ·subst h0
  obtain⟨oa,ca,rfl⟩:∃o c,va=.slice o 0 c:=by
   rcases ha.val with⟨_,h⟩|⟨g,c,h,_⟩
   ·exact h
   ·exact⟨_,_,h⟩
  obtain⟨ob,cb,rfl⟩:∃o c,vb=.slice o 0 c:=by
   rcases hb.val with⟨_,h⟩|⟨g,c,h,_⟩
   ·exact h
   ·exact⟨_,_,h⟩
  clear ha hb hg H1 H2 HG hn;go_enter func11,ntmps11;go_wp2_with fail;go_loopg [7] 0 (fun kk i wr=>kk=0/\i=.int .i64 0/\wr=w)
  case atStart=>exact⟨rfl,rfl,rfl⟩
  case round=>
   obtain⟨rfl,rfl,rfl⟩:=hrel;go_wp2_with fail;go_ret;exact⟨rfl,aa.refl _ _⟩
 ·obtain⟨g,c,rfl,aw,_⟩:=ha.val.resolve_left (fun h=>h0 h.1);obtain⟨g',c',rfl,U7,_⟩:=hb.val.resolve_left (fun h=>h0 h.1);clear ha hb hg aw U7;go_enter func11,ntmps11;go_wp2_with fail;go_loopg [7] n (fun kk i wr=>∃j:Nat,i=.int .i64 j/\j<=n/\kk=n-j/\Hid (aa af w wr))
  case atStart=>exact⟨0,rfl,Am _,rfl,aa.refl _ _⟩
  case round=>
   obtain⟨j,rfl,hj,rfl,K⟩:=hrel;by_cases mg:j<n
   ·have E1:=H1.out.kept K.out;have E2:=H2.out.kept K.out;obtain⟨g1,c1,e1,_,f1⟩:=E1.val.resolve_left (fun h=>h0 h.1);obtain⟨g2,c2,e2,_,f2⟩:=E2.val.resolve_left (fun h=>h0 h.1);simp only[Bi,A9,Addr.mk.injEq,true_and,and_true]at e1 e2;obtain⟨rfl,rfl⟩:=e1;obtain⟨rfl,rfl⟩:=e2;obtain⟨a0,a1,a2,a3⟩:=f1 j mg;obtain⟨b0,b1,b2,b3⟩:=f2 j mg;have G1:=ab (E1.gv j mg);have G2:=ab (E2.gv j mg);have HGj:Hid (gr=true->GS j=NR j):=(fun h=>HG.out h j mg);clear f1 f2 E1 E2;generalize A j=xa at*;generalize B j=xb at*;generalize GV j=gv at*;generalize R9 j=gv' at*;generalize GS j=gs at*;generalize NR j=dp at*;generalize TX j=tx at*;go_wp2_with fail;go_big_quiet (fail);clear a0 a1 a3 b0 b1 b3;replace a2:(wr.drewN nq).cell? ⟨g,j*4+2,none⟩=some gv:=a2;replace b2:(wr.drewN nq).cell? ⟨g',j*4+2,none⟩=some gv':=b2;have K1:Hid (aa af w (wr.drewN nq)):=K.out.drewN nq
    have F:Hid (∀n,Calls prog 20 #[gv,gv'] ((wr.drewN nq).drewN n) fun e w'=>e=.returned (.bool (decide (gs=dp)))/\∃m,w'=(wr.drewN nq).drewN m):=fun n=>by
     have kk:aa af wr ((wr.drewN nq).drewN n):=((aa.refl af wr).drewN nq).drewN n;refine(anj (G1.out.1.kept kk) (G2.out.1.kept kk) G1.out.2 G2.out.2).mono ?_;rintro e w' ⟨rfl,m,rfl⟩;exact⟨rfl,n+m,by rw[World.drewN_drewN]⟩
    clear G1 G2;obtain⟨eq,N5⟩:∃eq,Hid (decide (gs=dp)=eq):=⟨_,(rfl:_=_)⟩
    rw[N5.out]at F;clear K;generalize wr.drewN nq=wr2 at*;clear nq;go_wp2_with fail;go_big_quiet (first|(go_at_call 20;exact F.out _))
    have aiA:gr=false\/eq=true:=by
     cases gr
     ·exact Or.inl rfl
     ·right
      rw[<-N5.out];exact Cx (HGj.out rfl)
    rcases aiA with rfl|rfl
    ·go_wp2_with fail
     go_roundg (n-(j+1))
     case measure=>omega
     case rel=>exact⟨j+1,by go_num,by omega,rfl,K1.out.drewN _⟩
    ·cases gr
     all_goals
      go_wp2_with fail
      go_roundg (n-(j+1))
      case measure=>omega
      case rel=>exact⟨j+1,by go_num,by omega,rfl,K1.out.drewN _⟩
   ·go_wp2_with fail
    go_ret
    exact⟨rfl,K.out⟩
end Go.Proofs.YtpdnofhackjfdaaGreatDoor
