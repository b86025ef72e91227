/- Package threads' -/
import Derived.Test.YtpdnofhackjfdaaGreatDoorP29
set_option linter.all false
set_option maxRecDepth 100000
set_option maxHeartbeats 8000000
namespace Go.Proofs.YtpdnofhackjfdaaGreatDoor
open Go.Proofs.Tryz
open Go.RowKit Go.Maps
variable {f:FS} {ah bh st:Int} {i u:Nat} {K O O' O1:Nat->Prop} {nv:Value} {W w w' w1 w2:World}
structure cH(O O':Nat->Prop)(w w':World):Prop where
 kept:aa O w w'
 aq:∀i,O' i->O i\/w.heap.size<=i
theorem cH.refl(O:Nat->Prop)(w:World):cH O O w w:=⟨aa.refl _ _,fun _ h=>Or.inl h⟩
theorem cH.trans{O2:Nat->Prop}(h:cH O O1 w w1)(k:cH O1 O2 w1 w2):cH O O2 w w2 where
 kept:=h.kept.b_ k.kept (fun i hi hx=>(h.aq i hx).resolve_right (by omega))
 aq i hi:=by
  have:=h.kept.size;rcases k.aq i hi with h1|h1
  ·exact h.aq i h1
  ·right;omega
theorem cH.new(h:cH O O1 w w1)(k:aa ai w1 w2):cH O O1 w w2:=⟨h.kept.b_ k (fun _ _ hx=>hx.elim),h.aq⟩
theorem cH.of(k:aa ai w w')(h:∀i,O' i->O i\/w.heap.size<=i):cH O O' w w':=⟨k.mono (fun _ hx=>hx.elim),h⟩
theorem cH.apart(h:cH O O' w w'){c:Nat}(hc:c<w.heap.size)(hn:¬O c):¬O' c:=fun hx=>by
 rcases h.aq c hx with h1|h1
 ·exact hn h1
 ·omega
theorem lq{P:Program}{ops:Array Oper}{Q:Exit->Act->World->Prop}{md:Region.Mode}{S:World->Prop}(i:Nat)(d:Tmp)(v:Value){oi:Oper}{fuel:Nat}{dN:Array Bool}{a:Act}(hS:S w)
 (h:wpAnyH P md ops Q S fuel (dN.setIfInBounds i true) (a.put (some d) v) w)
 (hi:ops[i]? =some oi:=by rfl)(hd:oi.dst=some d:=by rfl)(hs:Region.noSelect ops=true:=by kernel_rfl)(hf:Region.free md ops dN i=true:=by kernel_rfl)(hr:(Region.ready md ops dN).contains i=true:=by kernel_rfl)
 (hQ:∀c a w,Q (.panic c) (a.put oi.dst v) w->Q (.panic c) a w:=by exact fun _ _ _ h=>h)(hy:YieldsIf P ops S oi v a:=by first|exact Or.inr ⟨by simp[Region.wanted,yielded],rfl⟩|exact Or.inl ⟨by simp[Region.wanted,yielded],fun W ff=>by first|(go_simp;done)|(cases ff;repeat cases ‹_/\_›;go_simp)⟩):wpAnyH P md ops Q S (fuel+1) dN a w:=
 mP i d v hi hd hs hf hr hQ hy hS h
theorem ahv{bs:Nat}{S:bI}(h:gj w bs S)(k:aa ai w W)(hb:S≠ []->bs<w.heap.size):gj W bs S:=fun i hi=>by
 have aB:S≠ []:=by intro e;subst e;simp at hi
 exact⟨(k.cell (p:=⟨bs,i*2,none⟩) (hb aB) (fun h=>h)).trans (h i hi).1,(k.cell (p:=⟨bs,i*2+1,none⟩) (hb aB) (fun h=>h)).trans (h i hi).2⟩
structure FG where
 fb:Nat
 sb:Nat
 bb:Nat
 lo:Nat
 hi:Nat
 mb:Nat
 c:Nat
 vs:List Sv
 ms:List MS
 st:Int
 G:Int
def FG.mv(g:FG):Value:=.slice (some (GB g.mb 0)) g.ms.length g.c
def FG.cP(g:FG)(i:Nat):Prop:=(i=g.mb\/(g.lo<=i/\i<g.hi))\/(i=0\/i=1)
structure FG.Ok(g:FG):Prop where
 fJ:fg g.ms
 q:∃Q,iJ Q g.ms
 bN:g.ms.length<=4001
 ap:g.fb≠g.sb/\g.fb≠g.bb/\g.sb≠g.bb
 am:¬g.cP g.fb/\¬g.cP g.sb/\¬g.cP g.bb
def dL(g:FG)(nv:Value)(i:Nat):Prop:=(i=g.fb\/i=g.sb\/i=g.bb)\/nv.ownBlock=some i
def kU(l:List Bool):List Value:=l.map fun b=>.bool b
def eU(l:List bJ):List Value:=l.flatMap fun t=>[GW t.1,GW t.2]
theorem II(l:List bJ):(eU l).length=l.length*2:=by
 induction l with
 |nil=>rfl
 |cons t ts ih=>
  have:eU (t::ts)=[GW t.1,GW t.2]++eU ts:=rfl;rw[this,Aj,ih];simp;omega
theorem YT(l:List bJ)(t:bJ):eU (l++[t])=eU l++[GW t.1,GW t.2]:=by unfold eU;simp
structure gE(w:World)(g:FG)(ah bh:Int)(nv:Value)(f:FS):Prop where
 aq:au w g.fb #[g.mv,GW g.st,GW g.G,.int .i32 ah,.int .i32 bh,.slice (some (GB g.sb 0)) g.ms.length g.ms.length,.slice (some (GB g.bb 0)) g.ms.length g.ms.length,nv] 183
 sn:au w g.sb (kU f.seen).toArray 4
 bg:au w g.bb (kU f.dO).toArray 4
 nx:w.ownsRow 0 256 2 nv f.next.length (eU f.next)
 sz:FQ g.ms.length f
 fw:oW g.ms.length f
 an:∀i,nv.ownBlock=some i->(i≠g.fb/\i≠g.sb/\i≠g.bb)/\¬g.cP i
 ma:jj w g.lo g.hi g.mb g.c g.vs g.ms
theorem gE.cP{g:FG}(h:gE w g ah bh nv f)(hg:g.Ok)(hi:dL g nv i):¬g.cP i:=by
 rcases hi with(rfl|rfl|rfl)|hi
 ·exact hg.am.1
 ·exact hg.am.2.1
 ·exact hg.am.2.2
 ·exact(h.an i hi).2
theorem gE.lt{g:FG}(h:gE w g ah bh nv f)(hi:dL g nv i):i<w.heap.size:=by
 rcases hi with(rfl|rfl|rfl)|hi
 ·exact h.aq.lt
 ·exact h.sn.lt
 ·exact h.bg.lt
 ·exact(dw h.nx hi).2
theorem jj.Kb{g:FG}(h:jj w g.lo g.hi g.mb g.c g.vs g.ms)(k:aa K w w')(hK:∀i,K i->¬g.cP i):jj w' g.lo g.hi g.mb g.c g.vs g.ms:=
 ⟨h.iz.kept k (fun hx=>hK _ hx (Or.inl (Or.inl rfl))),fun i a b=>(h.wR i a b).kept k (fun j j1 j2 hx=>hK j hx (Or.inl (Or.inr ⟨j1,j2⟩))) h.le,Bh h.le k.size,h.jS.kept k (fun hx=>hK _ hx (Or.inr (Or.inl rfl))) (fun hx=>hK _ hx (Or.inr (Or.inr rfl)))⟩
theorem gE.kept{g:FG}(h:gE w g ah bh nv f)(k:aa K w w')(hK:∀i,K i->¬dL g nv i/\¬g.cP i):gE w' g ah bh nv f:=
 ⟨h.aq.kept k (fun hx=>(hK _ hx).1 (Or.inl (Or.inl rfl))),h.sn.kept k (fun hx=>(hK _ hx).1 (Or.inl (Or.inr (Or.inl rfl)))),h.bg.kept k (fun hx=>(hK _ hx).1 (Or.inl (Or.inr (Or.inr rfl)))),bU h.nx k (fun i hi hx=>(hK _ hx).1 (Or.inr hi)),h.sz,h.fw,h.an,h.ma.Kb k (fun i hx=>(hK _ hx).2)⟩
theorem gE.new{g:FG}(h:gE w g ah bh nv f)(k:aa ai w w'):gE w' g ah bh nv f:=h.kept k (fun _ hx=>hx.elim)
theorem gE.abd{g:FG}(h:gE w g ah bh nv f):gE w.drew g ah bh nv f:=h.new (aa.refl _ _).drew
theorem aaK(l:List Bool)(k:Nat)(b:Bool):(kU l).toArray.setIfInBounds k (.bool b)=(kU (l.set k b)).toArray:=by
 simp[kU,Fj]
theorem UJ(l:List Bool)(k:Nat):(kU l).toArray[k]? =(l[k]?).map Value.bool:=by simp[kU]
theorem Vm{l:List Bool}{k:Nat}{d b:Bool}(hk:k<l.length)(h:l.getD k d=b):l[k]? =some b:=by
 rw[Af,Ae hk]at h;simp at h;rw[Ae hk,h]
theorem Tryz.Xk:(prog.info? 256).map (fun i=>(i.zero,i.size,i.bytes))=some (some (.agg #[GW 0,GW 0]),2,16):=by kernel_rfl
theorem Te(a b:Int):∀u∈ [GW a,GW b],u.oneCell'=true:=by intro u hu;simp at hu;rcases hu with rfl|rfl<;>rfl
theorem gE.begin{g:FG}(hg:g.Ok)(h:gE w g ah bh nv f)(k:Nat):au (w.setCell (GB g.bb k) (.bool true)) g.fb #[g.mv,GW g.st,GW g.G,.int .i32 ah,.int .i32 bh,.slice (some (GB g.sb 0)) g.ms.length g.ms.length,.slice (some (GB g.bb 0)) g.ms.length g.ms.length,nv] 183/\au (w.setCell (GB g.bb k) (.bool true)) g.bb (kU (f.dO.set k true)).toArray 4:=by
 refine⟨h.aq.qw (p:=(GB g.bb k)) hg.ap.2.1 _,?_⟩;have:=h.bg.setCell k (.bool true);rw[aaK]at this;exact this
theorem gE.Ow{w7:World}{g:FG}{eH:Value}{m:MS}(hg:g.Ok)(h:gE w g ah bh nv f)(ht:(fW m.sp m.fo m.nt bh&& !f.dO.getD m.next.toNat true)=true)
 (k0:aa ai (w.setCell ⟨g.bb,m.next.toNat,none⟩ (.bool true)) W)(bC:w7.ownsRow 0 256 2 eH (f.next.length+1) (eU f.next++[GW m.next,GW st]))(dM:W.grownBy w7 nv.ownBlock)(cI:eH.ownBlock=nv.ownBlock\/eH.ownBlock=some W.heap.size):
 au w7 g.fb #[g.mv,GW g.st,GW g.G,.int .i32 ah,.int .i32 bh,.slice (some (GB g.sb 0)) g.ms.length g.ms.length,.slice (some (GB g.bb 0)) g.ms.length g.ms.length,nv] 183/\
 gE (w7.setCell (GB g.fb 7) eH) g ah bh eH (ny m bh st f)/\cH (dL g nv) (dL g eH) w (w7.setCell (GB g.fb 7) eH):=by
 have hT:ny m bh st f=⟨f.seen,f.dO.set m.next.toNat true,f.next++[(m.next,st)]⟩:=if_pos ht;have ks:aa (dL g nv) w (w.setCell ⟨g.bb,m.next.toNat,none⟩ (.bool true)):=(aa.refl (dL g nv) w).setCell (p:=⟨g.bb,m.next.toNat,none⟩) (Or.inl (Or.inl (Or.inr (Or.inr rfl)))) _;have kb:aa (fun i=>i=g.bb) w (w.setCell ⟨g.bb,m.next.toNat,none⟩ (.bool true)):=(aa.refl (fun i=>i=g.bb) w).setCell (p:=⟨g.bb,m.next.toNat,none⟩) (Or.inl rfl) _;have k7:aa (fun i=>nv.ownBlock=some i) (w.setCell ⟨g.bb,m.next.toNat,none⟩ (.bool true)) w7:=(k0.mono (fun i hx=>hx.elim)).eP dM (fun j hj=>Or.inl hj);have JX:w.heap.size<=W.heap.size:=Bh ks.size k0.size
 have lZ:∀i,eH.ownBlock=some i->nv.ownBlock=some i\/w.heap.size<=i:=fun i hi=>by
  rcases cI with hl|hl
  ·exact Or.inl (hl▸hi)
  ·rw[hl]at hi;cases hi;right;exact JX
 obtain⟨q1,q2⟩:=h.begin hg m.next.toNat
 have b7:=q1.kept k7 (fun hx=>(h.an _ hx).1.1 rfl);have g7:=q2.kept k7 (fun hx=>(h.an _ hx).1.2.2 rfl);have s7:au w7 g.sb (kU f.seen).toArray 4:=(h.sn.kept kb (fun hx=>hg.ap.2.2 hx)).kept k7 (fun hx=>(h.an _ hx).1.2.1 rfl)
 have Hq:∀i,eH.ownBlock=some i->(i≠g.fb/\i≠g.sb/\i≠g.bb)/\¬g.cP i:=fun i hi=>by
  rcases lZ i hi with h1|h1
  ·exact h.an i h1
  ·have f1:=h.aq.lt;have f2:=h.sn.lt;have f3:=h.bg.lt;refine⟨⟨by omega,by omega,by omega⟩,fun hx=>?_⟩;have m1:=h.ma.iz.lt;have m2:=h.ma.le;have m3:=h.ma.jS.lt;rcases hx with(hx|hx)|(hx|hx)<;>omega
 have kf:aa (fun i=>i=g.fb) w7 (w7.setCell (GB g.fb 7) eH):=(aa.refl (fun i=>i=g.fb) w7).setCell (p:=(GB g.fb 7)) (Or.inl rfl) _;have DH:aa (dL g nv) w (w7.setCell (GB g.fb 7) eH):=(ks.trans (k7.mono (fun i hi=>Or.inr hi))).trans (kf.mono (fun i hi=>Or.inl (Or.inl hi)));refine⟨b7,?_,⟨DH,fun i hi=>?_⟩⟩
 ·rw[hT];refine⟨?_,s7.kept kf (fun hx=>hg.ap.1 hx.symm),g7.kept kf (fun hx=>hg.ap.2.1 hx.symm),?_,?_,?_,Hq,h.ma.Kb DH (fun i hi=>h.cP hg hi)⟩
  ·have:=b7.setCell 7 eH;simpa using this
  ·simp only[Aj,Ax,Bf];rw[YT];exact bU bC kf (fun i hi hx=>(Hq i hi).1.1 hx)
  ·have:=apk (m:=m) (bh:=bh) (st:=st) h.sz;rw[hT]at this;exact this
  ·have:=afJ (m:=m) (bh:=bh) (st:=st) h.fw;rw[hT]at this;exact this
 ·rcases hi with hi|hi
  ·exact Or.inl (Or.inl hi)
  ·rcases lZ i hi with h1|h1
   ·exact Or.inl (Or.inr h1)
   ·exact Or.inr h1
def Qa(g:FG)(u mn:Nat)(bh:Int)(sa:Option Addr)(sn sc:Nat)(b:Bool)(W:World):Prop:=(W.cell? (GB g.fb 4)=some (.int .i32 bh)/\W.cell? (GB g.fb 6)=some (.slice (some (GB g.bb 0)) g.ms.length g.ms.length))/\(W.cell? ⟨g.mb,u*6+1,none⟩=some (.slice sa sn sc)/\W.cell? ⟨g.mb,u*6+4,none⟩=some (GW (mn:Int)))/\W.cell? (GB g.bb mn)=some (.bool b)
def aaw(g:FG)(u mn:Nat)(nv:Value)(W:World):Prop:=W.cell? (GB g.fb 7)=some nv/\W.cell? ⟨g.mb,u*6+4,none⟩=some (GW (mn:Int))
theorem akp{g:FG}(hg:g.Ok)(h:gE w g ah bh nv f)(hu:u<g.ms.length)(hk:(g.ms[u]).kind=1)(hb:0<=bh/\bh<=1114111):
 Calls prog 230 #[BT g.fb 0,.pointer (some ⟨g.mb,u*6,none⟩),GW st] w fun e w'=>e=.returned (.tuple #[])/\∃eH,gE w' g ah bh eH (ny g.ms[u] bh st f)/\cH (dL g nv) (dL g eH) w w':=by
 obtain⟨q,⟨tr,qY⟩,zt,mG⟩:=h.ma.iz.at hu;obtain⟨d0,d1,d2,d3,d4,d5⟩:=mG w h.ma.iz;have jc:=h.ma.wR u tr hu;rw[qY]at jc;obtain⟨Q,hQ⟩:=hg.q;have hn:=(hg.fJ u _ (Ae hu)).2.1 hk;obtain⟨mn,dP⟩:∃mn:Nat,(g.ms[u]).next=(mn:Int):=⟨(g.ms[u]).next.toNat,by omega⟩
 obtain⟨S,bs,e1,a2,a3,a4,a5,a6⟩:=jc.set hk;have hT:=a4.YR ((hQ _ (A6 hu)).1 hk);have hIN:=hT.2 bh hb.1 hb.2;obtain⟨qk,bV,cA,bY,bM,fF,DS,DT⟩:=q;simp only at d1 d4 zt e1 a2;subst e1;rw[zt.2.1,dP]at d4;have zp:mn<g.ms.length:=by omega
 have gJ:mn<f.dO.length:=by rw[h.sz.2];exact zp
 have iQ:(g.ms[u]).next.toNat=mn:=by rw[dP];rfl
 have F:Hid (∀W,aa ai w W->Calls prog 112 #[.slice bV S.length bY,.int .i32 bh] W fun e w'=>e=.returned (.bool (fW (g.ms[u]).sp (g.ms[u]).fo (g.ms[u]).nt bh))/\aa ai W w'):=fun W kW=>by
  have iO:S≠ []->bs<w.heap.size:=fun aB=>by have:=(a2 aB).2.2;have:=h.ma.le;omega
  have:=aae W bV bY bs S bh (fun aB=>⟨(a2 aB).1,Ar (iO aB) kW.size⟩) (ahv a3 kW iO) hT.1 a6;rw[hIN]at this;exact this
 have SN:Hid (∀W,aa ai w W->Qa g u mn bh bV S.length bY (f.dO.getD mn true) W):=fun W kW=>by
  have h':=h.new kW;refine⟨⟨h'.aq.cell 4,h'.aq.cell 6⟩,⟨(kW.cell (p:=⟨g.mb,u*6+1,none⟩) h.ma.iz.lt (fun hx=>hx)).trans d1,(kW.cell (p:=⟨g.mb,u*6+4,none⟩) h.ma.iz.lt (fun hx=>hx)).trans d4⟩,?_⟩;rw[h'.bg.cell mn,UJ,Vm gJ rfl];rfl
 have HH:=ab h;have HG:=ab hg;have vg:=ab iQ;have HMN:=ab dP;have i1:¬((g.ms.length:Int)<=(mn:Int)):=by omega
 clear h hg d0 d1 d2 d3 d4 d5 mG qY tr zt jc hQ a2 a3 a4 a5 a6 hT hIN iQ dP hn;go_in;go_wp2_with fail;refine gD (S:=Qa g u mn bh bV S.length bY (f.dO.getD mn true)) 21 (by kernel_rfl) rfl rfl rfl (by kernel_rfl) (by kernel_rfl) ?_;have ak:=SN.o w.drew (aa.refl _ _).drew;refine aj 0 6 (.pointer (some ⟨g.mb,u*6,none⟩)) ak ?_;refine aj 1 7 (.pointer (some ⟨g.mb,u*6,none⟩)) ak ?_;refine aj 2 8 (.pointer (some ⟨g.mb,u*6+1,none⟩)) ak ?_;refine aj 3 9 (.slice bV S.length bY) ak ?_;refine aj 4 10 (BT g.fb 0) ak ?_;refine aj 5 11 (BT g.fb 0) ak ?_;refine aj 6 12 (BT g.fb 4) ak ?_;refine aj 7 13 (.int .i32 bh) ak ?_;simp only[Act.put,Aa,Ad,Ac];refine bR 8 fun K hK=>?_
 go_simp;refine(F.o _ (aa.refl _ _).drew).mono ?_;rintro e w1 ⟨rfl,zx⟩;dsimp only;have K1:=ab (((aa.refl ai w).drew).trans zx);have fe:=SN.o w1 K1.o;refine hK.o _ _ fe (fun _=>?_);clear hK K zx ak
 cases CY:fW (g.ms[u]).sp (g.ms[u]).fo (g.ms[u]).nt bh
 ·have EQ:Hid (ny g.ms[u] bh st f=f):=by show _=_;unfold ny;rw[CY];simp
  clear CY;refine aj 9 15 (.bool false) fe ?_;simp only[Act.put,Aa,Ad,Ac];refine lq 10 16 undef fe ?_;simp only[Act.put,Aa,Ad,Ac];refine lq 11 17 undef fe ?_;simp only[Act.put,Aa,Ad,Ac];refine lq 12 18 undef fe ?_;simp only[Act.put,Aa,Ad,Ac];refine lq 13 19 undef fe ?_;simp only[Act.put,Aa,Ad,Ac];refine lq 14 20 undef fe ?_;simp only[Act.put,Aa,Ad,Ac];refine lq 15 21 undef fe ?_;simp only[Act.put,Aa,Ad,Ac];refine lq 16 22 undef fe ?_;simp only[Act.put,Aa,Ad,Ac];refine lq 17 23 undef fe ?_;simp only[Act.put,Aa,Ad,Ac];refine lq 18 24 undef fe ?_;simp only[Act.put,Aa,Ad,Ac];refine lq 19 25 undef fe ?_;simp only[Act.put,Aa,Ad,Ac];refine lq 20 26 undef fe ?_;simp only[Act.put,Aa,Ad,Ac];refine At (by kernel_rfl) ?_ _;unfold eo;simp only[Ak,Ag,Ah];go_simp;go_wp2_with fail;go_end0;refine⟨rfl,nv,?_,cH.of K1.o (fun i hi=>Or.inl hi)⟩;rw[EQ.o];exact HH.o.new K1.o
 ·generalize xG:f.dO.getD mn true=bb at fe
  have yv:=ab xG;clear xG;refine aj 9 15 (.bool true) fe ?_;simp only[Act.put,Aa,Ad,Ac];refine lq 10 16 (BT g.fb 0) fe ?_;simp only[Act.put,Aa,Ad,Ac];refine lq 11 17 (BT g.fb 0) fe ?_;simp only[Act.put,Aa,Ad,Ac];refine lq 12 18 (BT g.fb 6) fe ?_;simp only[Act.put,Aa,Ad,Ac];refine lq 13 19 (.slice (some (GB g.bb 0)) g.ms.length g.ms.length) fe ?_;simp only[Act.put,Aa,Ad,Ac];refine lq 14 20 (.pointer (some ⟨g.mb,u*6,none⟩)) fe ?_;simp only[Act.put,Aa,Ad,Ac];refine lq 15 21 (.pointer (some ⟨g.mb,u*6,none⟩)) fe ?_;simp only[Act.put,Aa,Ad,Ac];refine lq 16 22 (.pointer (some ⟨g.mb,u*6+4,none⟩)) fe ?_;simp only[Act.put,Aa,Ad,Ac];refine lq 17 23 (GW (mn:Int)) fe ?_;simp only[Act.put,Aa,Ad,Ac];refine lq 18 24 (BT g.bb mn) fe ?_;simp only[Act.put,Aa,Ad,Ac];refine lq 19 25 (.bool bb) fe ?_;simp only[Act.put,Aa,Ad,Ac];refine lq 20 26 (.bool (!bb)) fe ?_;simp only[Act.put,Aa,Ad,Ac];refine At (by kernel_rfl) ?_ _;unfold eo;simp only[Ak,Ag,Ah];go_simp
  cases bb
  ·have MR:=HH.o.new K1.o;obtain⟨qa,qb⟩:=MR.abd.begin HG.o mn;have ht:(fW (g.ms[u]).sp (g.ms[u]).fo (g.ms[u]).nt bh&& !f.dO.getD (g.ms[u]).next.toNat true)=true:=by rw[CY,vg.o,yv.o];rfl
   have HT:=ab ht;have f3:w1.frozen? (GB g.bb mn)=false:=MR.bg.frozen mn;have f4:w1.cell? (GB g.bb mn)=some (.bool false):=fe.2.2
   have S2:Hid (∀W,aa ai (w1.drew.setCell (GB g.bb mn) (.bool true)) W->aaw g u mn nv W):=fun W kW=>by
    refine⟨(qa.kept kW (fun hx=>hx)).cell 7,?_⟩
    have h0:(w1.drew.setCell (GB g.bb mn) (.bool true)).cell? ⟨g.mb,u*6+4,none⟩=some (GW (mn:Int)):=by
     have kb:aa (fun i=>i=g.bb) w1.drew (w1.drew.setCell (GB g.bb mn) (.bool true)):=(aa.refl (fun i=>i=g.bb) w1.drew).setCell (p:=(GB g.bb mn)) (Or.inl rfl) _;exact(kb.cell (p:=⟨g.mb,u*6+4,none⟩) MR.ma.iz.lt (fun hx=>HG.o.am.2.2 (Or.inl (Or.inl hx.symm)))).trans fe.2.1.2
    exact(kW.cell (p:=⟨g.mb,u*6+4,none⟩) (Bk _ _ h0) (fun hx=>hx)).trans h0
   have kO:=ab MR.abd;clear MR qa qb ht CY;go_wp2_with fail;refine gD (S:=Qa g u mn bh bV S.length bY false) 9 (by kernel_rfl) rfl rfl rfl (by kernel_rfl) (by kernel_rfl) ?_;have rV:Qa g u mn bh bV S.length bY false w1.drew:=fe;refine aj 0 28 (BT g.fb 0) rV ?_;refine aj 1 29 (BT g.fb 0) rV ?_;refine aj 2 30 (BT g.fb 6) rV ?_;refine aj 3 31 (.slice (some (GB g.bb 0)) g.ms.length g.ms.length) rV ?_;refine aj 4 32 (.pointer (some ⟨g.mb,u*6,none⟩)) rV ?_;refine aj 5 33 (.pointer (some ⟨g.mb,u*6,none⟩)) rV ?_;refine aj 6 34 (.pointer (some ⟨g.mb,u*6+4,none⟩)) rV ?_;refine aj 7 35 (GW (mn:Int)) rV ?_;refine aj 8 36 (BT g.bb mn) rV ?_;simp only[Act.put,Aa,Ad,Ac];refine At (by kernel_rfl) ?_ _;unfold eo;simp only[Ak,Ag,Ah];go_simp;obtain⟨ao,cn,Nq⟩:=cw kO.o.nx
   have PA:Hid (∀W w7 eH,aa ai (w1.drew.setCell (GB g.bb mn) (.bool true)) W->w7.ownsRow 0 256 2 eH (f.next.length+1) (eU f.next++[GW (mn:Int),GW st])->W.grownBy w7 nv.ownBlock->(eH.ownBlock=nv.ownBlock\/eH.ownBlock=some W.heap.size)->(w7.cell? (GB g.fb 7)=some nv/\w7.cell? ⟨g.mb,u*6+4,none⟩=some (GW (mn:Int)))/\w7.frozen? (GB g.fb 7)=false/\gE (w7.setCell (GB g.fb 7) eH) g ah bh eH (ny g.ms[u] bh st f)/\cH (dL g nv) (dL g eH) w (w7.setCell (GB g.fb 7) eH)):=fun W w7 eH k0 bC dM cI=>by
    rw[<-HMN.o]at bC;have k0':aa ai (w1.drew.setCell ⟨g.bb,(g.ms[u]).next.toNat,none⟩ (.bool true)) W:=by rw[vg.o];exact k0
    obtain⟨b7,p1,p2⟩:=gE.Ow HG.o kO.o HT.o k0' bC dM cI;have h4:=(S2.o W k0).2;have kG:aa (fun i=>nv.ownBlock=some i) W w7:=(aa.refl _ W).eP dM (fun j hj=>Or.inl hj);have h5:=(kG.cell (p:=⟨g.mb,u*6+4,none⟩) (Bk _ _ h4) (fun hx=>(kO.o.an _ hx).2 (Or.inl (Or.inl rfl)))).trans h4;exact⟨⟨b7.cell 7,h5⟩,b7.frozen 7,p1,(cH.of ((K1.o).trans ((aa.refl ai w1).drew)) (fun i hi=>Or.inl hi)).trans p2⟩
   have oe:Hid (∀W,aa ai (w1.drew.setCell (GB g.bb mn) (.bool true)) W->W.ownsRow 0 256 2 nv f.next.length (eU f.next)):=fun W k=>by
    have kb:aa (fun i=>i=g.bb) w1.drew (w1.drew.setCell (GB g.bb mn) (.bool true)):=(aa.refl (fun i=>i=g.bb) w1.drew).setCell (p:=(GB g.bb mn)) (Or.inl rfl) _;exact bU (bU kO.o.nx kb (fun i hi hx=>(kO.o.an i hi).1.2.2 hx)) k (fun i _ hx=>hx)
   have pB:f.next.length<=4001:=by have:=kO.o.fw;have:=HG.o.bN;unfold oW at*;omega
   obtain⟨i0,cW,dm,du,de⟩:=Bo Tryz.Xk;subst Nq;have ew:w1.drew.setCell (GB g.bb mn) (.bool true)=(w1.setCell (GB g.bb mn) (.bool true)).drew:=rfl;rw[ew]at S2 PA oe;clear ew;generalize(w1.setCell (GB g.bb mn) (.bool true)).drew=w2 at*;clear fe rV kO f3 f4 HH yv SN F HT;go_wp2_with fail;refine gD (S:=aaw g u mn (.slice ao f.next.length cn)) 15 (by kernel_rfl) rfl rfl rfl (by kernel_rfl) (by kernel_rfl) ?_;have cF:=S2.o w2.drew (aa.refl _ _).drew;refine aj 0 37 (BT g.fb 0) cF ?_;refine aj 1 38 (BT g.fb 0) cF ?_;refine aj 2 39 (BT g.fb 0) cF ?_;refine aj 3 40 (BT g.fb 7) cF ?_;refine aj 4 41 (.slice ao f.next.length cn) cF ?_;refine aj 5 42 (.pointer (some ⟨g.mb,u*6,none⟩)) cF ?_;refine aj 6 43 (.pointer (some ⟨g.mb,u*6,none⟩)) cF ?_;refine aj 7 44 (.pointer (some ⟨g.mb,u*6+4,none⟩)) cF ?_;refine aj 8 45 (GW (mn:Int)) cF ?_;refine aj 9 46 (GW st) cF ?_;refine aj 10 47 (.agg #[GW (mn:Int),GW st]) cF ?_;simp only[Act.put,Aa,Ad,Ac];refine bR 11 fun K hK=>?_
   go_simp;have kA:aa ai w2 (w2.drew.alloc (.cells #[GW (mn:Int),GW st] 256)):=((aa.refl ai w2).drew).alloc _;refine hK.o _ _ (S2.o _ kA) (fun _=>?_);clear hK K;refine bR 12 fun K hK=>?_
   refine SY rfl (.tmp 41) (.tmp 48) 151 rfl 0 256 i0 _ 2 16 underlying151 cW dm du de rfl (by decide) _ _ _ rfl (oe.o _ kA) (GB w2.heap.size 0) 1 1 [GW (mn:Int),GW st] rfl rfl ?nw (Te _ _) (by unfold maxLen;omega) (by omega) (Al _) ?_
   case nw=>
    intro j v hv;have hB:=au.new w2 #[.int .i64 (mn:Int),.int .i64 st] 256;have e:((GB w2.heap.size 0):Addr).add j=(GB w2.heap.size j):=by unfold Addr.add;split<;>simp_all
    rw[e];exact(hB.cell j).trans (by simpa using hv)
   intro v' w7 ho dM cI;obtain⟨jl,c',rfl⟩:=cw ho;obtain⟨c7,f7,p1,p2⟩:=PA.o _ _ _ kA ho dM cI;refine hK.o _ _ c7 (fun vS=>?_);have c7:=vS.1;clear hK K;have P1:=ab p1;have P2:=ab p2;refine aj 13 50 (BT g.fb 0) vS ?_;refine aj 14 51 (BT g.fb 7) vS ?_;simp only[Act.put,Aa,Ad,Ac];refine At (by kernel_rfl) ?_ _;unfold eo;simp only[Ak,Ag,Ah];go_simp;go_wp2_with fail;go_end0;exact⟨rfl,_,P1.o,P2.o⟩
  ·have EQ:Hid (ny g.ms[u] bh st f=f):=by show _=_;unfold ny;rw[CY,vg.o,yv.o];simp
   clear CY;go_wp2_with fail;go_end0;refine⟨rfl,nv,?_,cH.of K1.o (fun i hi=>Or.inl hi)⟩;rw[EQ.o];exact HH.o.new K1.o
theorem gE.alx{g:FG}(hg:g.Ok)(h:gE w g ah bh nv f)(u:Nat):gE (w.setCell (GB g.sb u) (.bool true)) g ah bh nv (f.mark u)/\cH (dL g nv) (dL g nv) w (w.setCell (GB g.sb u) (.bool true)):=by
 have ks:aa (fun i=>i=g.sb) w (w.setCell (GB g.sb u) (.bool true)):=(aa.refl (fun i=>i=g.sb) w).setCell (p:=(GB g.sb u)) (Or.inl rfl) _;have hs:=h.sn.setCell u (.bool true);rw[aaK]at hs;refine⟨⟨h.aq.kept ks (fun hx=>hg.ap.1 hx),hs,h.bg.kept ks (fun hx=>hg.ap.2.2 hx.symm),bU h.nx ks (fun i hi hx=>(h.an i hi).1.2.1 hx),⟨by simp[FS.mark,h.sz.1],h.sz.2⟩,h.fw,h.an,h.ma.Kb ks (fun i hx=>by rw[hx];exact hg.am.2.1)⟩,⟨ks.mono (fun i hx=>Or.inl (Or.inr (Or.inl hx))),fun i hi=>Or.inl hi⟩⟩
def Zi(g:FG)(u:Nat)(ed ah bh:Int)(W:World):Prop:=W.cell? ⟨g.mb,u*6+2,none⟩=some (GW ed)/\W.cell? (GB g.fb 3)=some (.int .i32 ah)/\W.cell? (GB g.fb 4)=some (.int .i32 bh)
structure Ep(w wr:World)(g:FG)(ah bh:Int)(nv l8:Value)(st:Int)(u0 u:Nat)(f f1:FS):Prop where
 fl:gE wr g ah bh l8 f1
 dt:cH (dL g nv) (dL g l8) w wr
 eq:fU g.ms ah bh u0 st f=fU g.ms ah bh u st f1
theorem Ep.go{wr:World}{g:FG}{l8 pJ:Value}{u0 u':Nat}{f1 f2:FS}(h:Ep w wr g ah bh nv l8 st u0 u f f1)(hf:gE w' g ah bh pJ f2)(hg:cH (dL g l8) (dL g pJ) wr w')(he:fU g.ms ah bh u st f1=fU g.ms ah bh u' st f2):Ep w w' g ah bh nv pJ st u0 u' f f2:=⟨hf,h.dt.trans hg,h.eq.trans he⟩
theorem aiR{g:FG}(hg:g.Ok)(hb:0<=bh/\bh<=1114111):∀(u0:Nat),u0<g.ms.length->∀(w:World) (nv:Value) (f:FS),gE w g ah bh nv f->
 Calls prog 229 #[BT g.fb 0,GW (u0:Int),GW st] w fun e w'=>e=.returned (.bool (fU g.ms ah bh u0 st f).2)/\∃eH,gE w' g ah bh eH (fU g.ms ah bh u0 st f).1/\cH (dL g nv) (dL g eH) w w':=by
 intro u0;induction u0 using Nat.strongRecOn with
 |_ u0 ih=>
 intro so w nv f h;have IH:=ab ih;have HG:=ab hg;have dD:Hid (Ep w w g ah bh nv nv st u0 u0 f f):=⟨h,cH.refl _ _,rfl⟩;clear ih hg h;go_in;go_wp2_with fail;go_loopg [1] u0 (fun kk v wr=>∃(u:Nat) (l8:Value) (f1:FS),v=GW (u:Int)/\kk=u/\u<=u0/\Hid (Ep w wr g ah bh nv l8 st u0 u f f1))
 case atStart=>exact⟨u0,nv,f,rfl,rfl,Ab _,dD⟩
 case round=>
  obtain⟨u,l8,f1,rfl,eE,huu,HI⟩:=hrel;clear dD;have hu:u<g.ms.length:=by omega
  have oE:¬((g.ms.length:Int)<=(u:Int)):=by omega
  have hF:=HI.o.fl;have c5:wr.cell? (GB g.fb 5)=some (.slice (some (GB g.sb 0)) g.ms.length g.ms.length):=hF.aq.cell 5;have gX:u<f1.seen.length:=by rw[hF.sz.1];exact hu
  cases hs:f1.seen.getD u true with
  |true=>
   have cs:wr.cell? (GB g.sb u)=some (.bool true):=by rw[hF.sn.cell u,UJ,Vm gX hs];rfl
   have aA:Hid ((fU g.ms ah bh u0 st f).2=false/\gE wr g ah bh l8 (fU g.ms ah bh u0 st f).1/\cH (dL g nv) (dL g l8) w wr):=by
    have:=HI.o.eq;rw[aiP hu hs]at this;rw[this];exact⟨rfl,hF,HI.o.dt⟩
   clear hF HI IH HG hs;go_wp2_with fail;go_ret;exact⟨by rw[aA.o.1];rfl,l8,aA.o.2⟩
  |false=>
   have cs:wr.cell? (GB g.sb u)=some (.bool false):=by rw[hF.sn.cell u,UJ,Vm gX hs];rfl
   have fs:=hF.sn.frozen u;obtain⟨hM,hGo⟩:=hF.alx HG.o u;obtain⟨q,⟨tr,qY⟩,zt,mG⟩:=hM.ma.iz.at hu;obtain⟨d0,d1,d2,d3,d4,d5⟩:=mG _ hM.ma.iz;have jc:=hM.ma.wR u tr hu;rw[qY]at jc;have EQ:=ab (aiQ HG.o.fJ (ah:=ah) (bh:=bh) (st:=st) (Ae hu) hs);have lR:=ab (HG.o.fJ u _ (Ae hu));have TK:=(ab fun(hk:(g.ms[u]).kind=1)=>akp (st:=st) HG.o hM hu hk hb);have c0:(wr.setCell (GB g.sb u) (.bool true)).cell? (GB g.fb 0)=some (.slice (some (GB g.mb 0)) g.ms.length g.c):=hM.aq.cell 0
   have SN:Hid (∀W,aa ai (wr.setCell (GB g.sb u) (.bool true)) W->Zi g u (g.ms[u]).eM ah bh W):=fun W k=>by
    have h2:=hM.new k;obtain⟨_,_,d2',_⟩:=mG W h2.ma.iz;rw[jc.ed]at d2';exact⟨d2',h2.aq.cell 3,h2.aq.cell 4⟩
   have FO:=(ab fun(ed:Int) (W:World)=>acA W ed ah bh);have ek:=jc.k;have BC:=jc.nx;have BD:=jc.ot;have zj:=jc.kr;have HM:=ab hM;have oY:=ab hGo;generalize hm:g.ms[u]=m at*;clear hm mG qY tr zt jc hM hGo hF hs;obtain⟨qk,bV,cA,bY,bM,fF,DS,DT⟩:=q;simp only at d0 d1 d2 d3 d4 d5 ek BC BD;subst ek BC BD;go_upto_region 3 with fail
   generalize wr.setCell (GB g.sb u) (.bool true)=w2 at*
   clear c5 cs fs gX;by_cases k0:m.kind=0
   ·rw[k0]at d0
    have aA:Hid ((fU g.ms ah bh u0 st f).2=true/\gE w2 g ah bh l8 (fU g.ms ah bh u0 st f).1/\cH (dL g nv) (dL g l8) w w2):=by
     have:=HI.o.eq.trans (EQ.o.1 k0);rw[this];exact⟨rfl,HM.o,HI.o.dt.trans oY.o⟩
    clear HI IH HG EQ lR TK SN FO HM oY;go_wp2_with fail;go_ret;exact⟨by rw[aA.o.1];rfl,l8,aA.o.2⟩
   ·by_cases k1:m.kind=1
    ·rw[k1]at d0;have F:=ab (TK.o k1);clear IH HG lR TK SN FO;go_wp2_with fail;refine(F.o).mono ?_;rintro e w3 ⟨rfl,pJ,h3,g3⟩
     have aA:Hid ((fU g.ms ah bh u0 st f).2=false/\gE w3 g ah bh pJ (fU g.ms ah bh u0 st f).1/\cH (dL g nv) (dL g pJ) w w3):=by
      have:=HI.o.eq.trans (EQ.o.2.1 k1);rw[this];exact⟨rfl,h3,(HI.o.dt.trans oY.o).trans g3⟩
     clear h3 g3 F HI EQ HM oY;go_wp2_with fail;go_ret;exact⟨by rw[aA.o.1];rfl,pJ,aA.o.2⟩
    ·have hN:=lR.o.2.2.1 (by omega);obtain⟨mn,dP⟩:∃mn:Nat,m.next=(mn:Int):=⟨m.next.toNat,by omega⟩
     rw[dP]at d4;have Ho:mn<u:=(by omega);by_cases k2:m.kind=2
     ·rw[k2]at d0;have E2:=EQ.o.2.2.1 k2;rw[dP]at E2;have F:=(ab fun(W:World)=>FO.o m.eM W);obtain⟨kZ,Wi⟩:∃kZ,fi m.eM ah bh=kZ:=⟨_,rfl⟩
      rw[Wi]at F E2;have E2:=ab E2;have HC:=ab Wi;clear Wi IH HG EQ lR TK FO;go_wp2_with fail;refine j_ (gD (S:=Zi g u m.eM ah bh) 13 (by kernel_rfl) rfl rfl rfl (by kernel_rfl) (by kernel_rfl) ?_);have ak:=SN.o w2.drew (aa.refl _ _).drew;refine aj 0 47 (.pointer (some ⟨g.mb,u*6,none⟩)) ak ?_;refine aj 1 48 (.pointer (some ⟨g.mb,u*6,none⟩)) ak ?_;refine aj 2 49 (.pointer (some ⟨g.mb,u*6+2,none⟩)) ak ?_;refine aj 3 50 (GW m.eM) ak ?_;refine aj 4 51 (BT g.fb 0) ak ?_;refine aj 5 52 (BT g.fb 0) ak ?_;refine aj 6 53 (BT g.fb 3) ak ?_;refine aj 7 54 (.int .i32 ah) ak ?_;refine aj 8 55 (BT g.fb 0) ak ?_;refine aj 9 56 (BT g.fb 0) ak ?_;refine aj 10 57 (BT g.fb 4) ak ?_;refine aj 11 58 (.int .i32 bh) ak ?_;simp only[Act.put,Aa,Ad,Ac];refine bR 12 fun K hK=>?_
      go_simp;refine(F.o _).mono ?_;rintro e w3 ⟨rfl,rfl⟩;dsimp only;refine hK.o _ _ ak (fun _=>?_);clear hK K;refine At (by kernel_rfl) ?_ _;unfold eo;simp only[Ak,Ag,Ah];go_simp;refine jE ?_;have kd:aa ai w2 w2.drew:=(aa.refl ai w2).drew;have yy:=ab (HM.o.new kd);have Pn:=ab (oY.o.new kd);clear kd ak SN HM oY F;generalize w2.drew=w3 at*
      cases kZ with
      |false=>
       have aA:Hid ((fU g.ms ah bh u0 st f).2=false/\gE w3 g ah bh l8 (fU g.ms ah bh u0 st f).1/\cH (dL g nv) (dL g l8) w w3):=by
        have:=HI.o.eq.trans E2.o;rw[this];exact⟨rfl,yy.o,HI.o.dt.trans Pn.o⟩
       clear HI E2 yy Pn HC;go_wp2_with fail;go_ret;exact⟨by rw[aA.o.1];rfl,l8,aA.o.2⟩
      |true=>
       have aA:Hid (Ep w w3 g ah bh nv l8 st u0 mn f (f1.mark u)):=HI.o.go yy.o Pn.o (by rw[E2.o];simp);clear HI E2 yy Pn HC;go_wp2_with fail;go_roundg mn
       case measure=>omega
       case rel=>exact⟨mn,l8,_,rfl,rfl,by omega,aA⟩
     ·by_cases k3:m.kind=3
      ·rw[k3]at d0;have E3:=EQ.o.2.2.2.1 k3;rw[dP]at E3;have aA:=ab (HI.o.go HM.o oY.o E3);clear E3 HI IH HG EQ lR TK SN FO HM oY;go_wp2_with fail;go_roundg mn
       case measure=>omega
       case rel=>exact⟨mn,l8,_,rfl,rfl,by omega,aA⟩
      ·have k4:m.kind=4:=(by omega);rw[k4]at d0;have hO:=lR.o.2.2.2 k4;obtain⟨mo,fD⟩:∃mo:Nat,m.bj=(mo:Int):=⟨m.bj.toNat,by omega⟩
       rw[fD]at d5;have acy:mo<u:=(by omega);have E4:=EQ.o.2.2.2.2 k4;rw[dP,fD]at E4;have F:=IH.o mn (by omega) (by omega) w2 l8 _ HM.o
       cases hr:(fU g.ms ah bh (mn:Int) st (f1.mark u)).2 with
       |true=>
        rw[hr]at E4 F;have F:=ab F;have E4:=ab E4;clear IH HG EQ lR TK SN FO;go_wp2_with fail;refine(F.o).mono ?_;rintro e w3 ⟨rfl,pJ,h3,g3⟩
        have aA:Hid ((fU g.ms ah bh u0 st f).2=true/\gE w3 g ah bh pJ (fU g.ms ah bh u0 st f).1/\cH (dL g nv) (dL g pJ) w w3):=by
         have:fU g.ms ah bh u0 st f=fU g.ms ah bh (mn:Int) st (f1.mark u):=HI.o.eq.trans (by rw[E4.o];simp);rw[this];exact⟨hr,h3,(HI.o.dt.trans oY.o).trans g3⟩
        clear h3 g3 F HI HM oY E4 hr;go_wp2_with fail;go_ret;exact⟨by rw[aA.o.1];rfl,pJ,aA.o.2⟩
       |false=>
        rw[hr]at E4 F;have F:=ab F;have E4:=ab E4;have D5:Hid (∀w3 pJ,cH (dL g l8) (dL g pJ) w2 w3->w3.cell? ⟨g.mb,u*6+5,none⟩=some (GW (mo:Int))):=(fun w3 pJ kC=>(kC.kept.cell (p:=⟨g.mb,u*6+5,none⟩) HM.o.ma.iz.lt (fun hx=>HM.o.cP HG.o hx (Or.inl (Or.inl rfl)))).trans d5);clear IH EQ lR TK SN FO;go_wp2_with fail;refine(F.o).mono ?_;rintro e w3 ⟨rfl,pJ,h3,g3⟩;have d5':=D5.o _ _ g3;have aA:Hid (Ep w w3 g ah bh nv pJ st u0 mo f (fU g.ms ah bh (mn:Int) st (f1.mark u)).1):=HI.o.go h3 (oY.o.trans g3) (by rw[E4.o];simp);clear h3 g3 F HI HM oY E4 hr HG D5;go_wp2_with fail;go_roundg mo
        case measure=>omega
        case rel=>exact⟨mo,pJ,_,rfl,rfl,by omega,aA⟩
