/- Package threads' Follower in memory -/
import Derived.Test.YtpdnofhackjfdaaGreatDoorP29
set_option linter.all false
set_option maxRecDepth 100000
set_option maxHeartbeats 8000000
namespace Go.Proofs.YtpdnofhackjfdaaGreatDoor
open Go.Proofs.Tryz
open Go.RowKit Go.Maps
variable {f:FS} {ah bh st:Int} {i u:Nat} {K O O1:Nat->Prop} {nv:Value} {W w w' w1 w2:World}
structure cF(O O':Nat->Prop)(w w':World):Prop where
 kept:aa O w w'
 ak:∀i,O' i->O i\/w.heap.size<=i
theorem cF.refl(O:Nat->Prop)(w:World):cF O O w w:=⟨aa.refl _ _,fun _ h=>Or.inl h⟩
theorem cF.trans{O2:Nat->Prop}(h:cF O O1 w w1)(k:cF O1 O2 w1 w2):cF O O2 w w2 where
 kept:=h.kept.bV k.kept (fun i hi hx=>(h.ak i hx).resolve_right (by omega))
 ak i hi:=by
  have:=h.kept.size;rcases k.ak i hi with h1|h1
  ·exact h.ak i h1
  ·right;omega
theorem cF.new(h:cF O O1 w w1)(k:aa af w1 w2):cF O O1 w w2:=⟨h.kept.bV k (fun _ _ hx=>hx.elim),h.ak⟩
theorem cF.of{O':Nat->Prop}(k:aa af w w')(h:∀i,O' i->O i\/w.heap.size<=i):cF O O' w w':=⟨k.mono (fun _ hx=>hx.elim),h⟩
theorem kY{P:Program}{ops:Array Oper}{Q:Exit->Act->World->Prop}{md:Region.Mode}{S:World->Prop}(i:Nat)(d:Tmp)(v:Value){oi:Oper}{fuel:Nat}{dE:Array Bool}{a:Act}(hS:S w)
 (h:wpAnyH P md ops Q S fuel (dE.setIfInBounds i true) (a.put (some d) v) w)
 (hi:ops[i]? =some oi:=by rfl)(hd:oi.dst=some d:=by rfl)(hs:Region.noSelect ops=true:=by kernel_rfl)(hf:Region.free md ops dE i=true:=by kernel_rfl)(hr:(Region.ready md ops dE).contains i=true:=by kernel_rfl)
 (hQ:∀c a w,Q (.panic c) (a.put oi.dst v) w->Q (.panic c) a w:=by exact fun _ _ _ h=>h)(hy:YieldsIf P ops S oi v a:=by first|exact Or.inr ⟨by simp[Region.wanted,yielded],rfl⟩|exact Or.inl ⟨by simp[Region.wanted,yielded],fun W eP=>by first|(go_simp;done)|(cases eP;repeat cases ‹_/\_›;go_simp)⟩):wpAnyH P md ops Q S (fuel+1) dE a w:=
 pj i d v hi hd hs hf hr hQ hy hS h
theorem agG{bs:Nat}{S:bD}(h:fV w bs S)(k:aa af w W)(hb:S≠ []->bs<w.heap.size):fV W bs S:=fun i hi=>by
 have az:S≠ []:=by intro e;subst e;simp at hi
 exact⟨(k.cell (p:=⟨bs,i*2,none⟩) (hb az) (fun h=>h)).trans (h i hi).1,(k.cell (p:=⟨bs,i*2+1,none⟩) (hb az) (fun h=>h)).trans (h i hi).2⟩
structure FG where
 fb:Nat
 sb:Nat
 bb:Nat
 lo:Nat
 hi:Nat
 mb:Nat
 c:Nat
 vs:List Sv
 ms:List MS
 st:Int
 G:Int
def FG.mv(g:FG):Value:=.slice (some ⟨g.mb,0,none⟩) g.ms.length g.c
def FG.cI(g:FG)(i:Nat):Prop:=(i=g.mb\/(g.lo<=i/\i<g.hi))\/(i=0\/i=1)
structure FG.Ok(g:FG):Prop where
 ft:eR g.ms
 q:∃Q,iz Q g.ms
 bT:g.ms.length<=4001
 ap:g.fb≠g.sb/\g.fb≠g.bb/\g.sb≠g.bb
 am:¬g.cI g.fb/\¬g.cI g.sb/\¬g.cI g.bb
def dC(g:FG)(nv:Value)(i:Nat):Prop:=(i=g.fb\/i=g.sb\/i=g.bb)\/nv.ownBlock=some i
def kJ(l:List Bool):List Value:=l.map fun b=>.bool b
def eF(l:List bF):List Value:=l.flatMap fun t=>[.int .i64 t.1,.int .i64 t.2]
theorem He(l:List bF):(eF l).length=l.length*2:=by
 induction l with
 |nil=>rfl
 |cons t ts ih=>
  have:eF (t::ts)=[.int .i64 t.1,.int .i64 t.2]++eF ts:=rfl;rw[this,Aj,ih];simp;omega
theorem Xv(l:List bF)(t:bF):eF (l++[t])=eF l++[.int .i64 t.1,.int .i64 t.2]:=by unfold eF;simp
structure gu(w:World)(g:FG)(ah bh:Int)(nv:Value)(f:FS):Prop where
 ak:aq w g.fb #[g.mv,.int .i64 g.st,.int .i64 g.G,.int .i32 ah,.int .i32 bh,.slice (some ⟨g.sb,0,none⟩) g.ms.length g.ms.length,.slice (some ⟨g.bb,0,none⟩) g.ms.length g.ms.length,nv] 183
 sn:aq w g.sb (kJ f.seen).toArray 4
 bg:aq w g.bb (kJ f.dF).toArray 4
 nx:w.ownsRow 0 256 2 nv f.next.length (eF f.next)
 sz:DE g.ms.length f
 fw:pB g.ms.length f
 an:∀i,nv.ownBlock=some i->(i≠g.fb/\i≠g.sb/\i≠g.bb)/\¬g.cI i
 ma:jb w g.lo g.hi g.mb g.c g.vs g.ms
theorem gu.cI{g:FG}(h:gu w g ah bh nv f)(hg:g.Ok)(hi:dC g nv i):¬g.cI i:=by
 rcases hi with(rfl|rfl|rfl)|hi
 ·exact hg.am.1
 ·exact hg.am.2.1
 ·exact hg.am.2.2
 ·exact(h.an i hi).2
theorem gu.lt{g:FG}(h:gu w g ah bh nv f)(hi:dC g nv i):i<w.heap.size:=by
 rcases hi with(rfl|rfl|rfl)|hi
 ·exact h.ak.lt
 ·exact h.sn.lt
 ·exact h.bg.lt
 ·exact(dw h.nx hi).2
theorem jb.Jj{g:FG}(h:jb w g.lo g.hi g.mb g.c g.vs g.ms)(k:aa K w w')(hK:∀i,K i->¬g.cI i):jb w' g.lo g.hi g.mb g.c g.vs g.ms:=
 ⟨h.ic.kept k (fun hx=>hK _ hx (Or.inl (Or.inl rfl))),fun i a b=>(h.vZ i a b).kept k (fun j j1 j2 hx=>hK j hx (Or.inl (Or.inr ⟨j1,j2⟩))) h.le,Be h.le k.size,h.jK.kept k (fun hx=>hK _ hx (Or.inr (Or.inl rfl))) (fun hx=>hK _ hx (Or.inr (Or.inr rfl)))⟩
theorem gu.kept{g:FG}(h:gu w g ah bh nv f)(k:aa K w w')(hK:∀i,K i->¬dC g nv i/\¬g.cI i):gu w' g ah bh nv f:=
 ⟨h.ak.kept k (fun hx=>(hK _ hx).1 (Or.inl (Or.inl rfl))),h.sn.kept k (fun hx=>(hK _ hx).1 (Or.inl (Or.inr (Or.inl rfl)))),h.bg.kept k (fun hx=>(hK _ hx).1 (Or.inl (Or.inr (Or.inr rfl)))),bR h.nx k (fun i hi hx=>(hK _ hx).1 (Or.inr hi)),h.sz,h.fw,h.an,h.ma.Jj k (fun i hx=>(hK _ hx).2)⟩
theorem gu.new{g:FG}(h:gu w g ah bh nv f)(k:aa af w w'):gu w' g ah bh nv f:=h.kept k (fun _ hx=>hx.elim)
theorem gu.aaz{g:FG}(h:gu w g ah bh nv f):gu w.drew g ah bh nv f:=h.new (aa.refl _ _).drew
theorem Z1(l:List Bool)(k:Nat)(b:Bool):(kJ l).toArray.setIfInBounds k (.bool b)=(kJ (l.set k b)).toArray:=by
 simp[kJ,Fe]
theorem Tm(l:List Bool)(k:Nat):(kJ l).toArray[k]? =(l[k]?).map Value.bool:=by simp[kJ]
theorem T0{l:List Bool}{k:Nat}{d b:Bool}(hk:k<l.length)(h:l.getD k d=b):l[k]? =some b:=by
 rw[Af,Ae hk]at h;simp at h;rw[Ae hk,h]
theorem Tryz.VI:(prog.info? 256).map (fun i=>(i.zero,i.size,i.bytes))=some (some (.agg #[.int .i64 0,.int .i64 0]),2,16):=by kernel_rfl
theorem RE(a b:Int):∀u∈ [Value.int .i64 a,.int .i64 b],u.oneCell'=true:=by intro u hu;simp at hu;rcases hu with rfl|rfl<;>rfl
theorem gu.begin{g:FG}(hg:g.Ok)(h:gu w g ah bh nv f)(k:Nat):aq (w.setCell ⟨g.bb,k,none⟩ (.bool true)) g.fb #[g.mv,.int .i64 g.st,.int .i64 g.G,.int .i32 ah,.int .i32 bh,.slice (some ⟨g.sb,0,none⟩) g.ms.length g.ms.length,.slice (some ⟨g.bb,0,none⟩) g.ms.length g.ms.length,nv] 183/\aq (w.setCell ⟨g.bb,k,none⟩ (.bool true)) g.bb (kJ (f.dF.set k true)).toArray 4:=by
 refine⟨h.ak.Ns (p:=⟨g.bb,k,none⟩) hg.ap.2.1 _,?_⟩;have:=h.bg.setCell k (.bool true);rw[Z1]at this;exact this
theorem gu.Ng{w7:World}{g:FG}{dZ:Value}{m:MS}(hg:g.Ok)(h:gu w g ah bh nv f)(ht:(fP m.sp m.fo m.nt bh&& !f.dF.getD m.next.toNat true)=true)
 (k0:aa af (w.setCell ⟨g.bb,m.next.toNat,none⟩ (.bool true)) W)(bk:w7.ownsRow 0 256 2 dZ (f.next.length+1) (eF f.next++[.int .i64 m.next,.int .i64 st]))(dK:W.grownBy w7 nv.ownBlock)(cx:dZ.ownBlock=nv.ownBlock\/dZ.ownBlock=some W.heap.size):
 aq w7 g.fb #[g.mv,.int .i64 g.st,.int .i64 g.G,.int .i32 ah,.int .i32 bh,.slice (some ⟨g.sb,0,none⟩) g.ms.length g.ms.length,.slice (some ⟨g.bb,0,none⟩) g.ms.length g.ms.length,nv] 183/\
 gu (w7.setCell ⟨g.fb,7,none⟩ dZ) g ah bh dZ (mT m bh st f)/\cF (dC g nv) (dC g dZ) w (w7.setCell ⟨g.fb,7,none⟩ dZ):=by
 have hT:mT m bh st f=⟨f.seen,f.dF.set m.next.toNat true,f.next++[(m.next,st)]⟩:=if_pos ht;have ks:aa (dC g nv) w (w.setCell ⟨g.bb,m.next.toNat,none⟩ (.bool true)):=(aa.refl (dC g nv) w).setCell (p:=⟨g.bb,m.next.toNat,none⟩) (Or.inl (Or.inl (Or.inr (Or.inr rfl)))) _;have kb:aa (fun i=>i=g.bb) w (w.setCell ⟨g.bb,m.next.toNat,none⟩ (.bool true)):=(aa.refl (fun i=>i=g.bb) w).setCell (p:=⟨g.bb,m.next.toNat,none⟩) (Or.inl rfl) _;have k7:aa (fun i=>nv.ownBlock=some i) (w.setCell ⟨g.bb,m.next.toNat,none⟩ (.bool true)) w7:=(k0.mono (fun i hx=>hx.elim)).eN dK (fun j hj=>Or.inl hj);have I7:w.heap.size<=W.heap.size:=Be ks.size k0.size
 have lM:∀i,dZ.ownBlock=some i->nv.ownBlock=some i\/w.heap.size<=i:=fun i hi=>by
  rcases cx with hl|hl
  ·exact Or.inl (hl▸hi)
  ·rw[hl]at hi;cases hi;right;exact I7
 obtain⟨q1,q2⟩:=h.begin hg m.next.toNat
 have b7:=q1.kept k7 (fun hx=>(h.an _ hx).1.1 rfl);have g7:=q2.kept k7 (fun hx=>(h.an _ hx).1.2.2 rfl);have s7:aq w7 g.sb (kJ f.seen).toArray 4:=(h.sn.kept kb (fun hx=>hg.ap.2.2 hx)).kept k7 (fun hx=>(h.an _ hx).1.2.1 rfl)
 have Mc:∀i,dZ.ownBlock=some i->(i≠g.fb/\i≠g.sb/\i≠g.bb)/\¬g.cI i:=fun i hi=>by
  rcases lM i hi with h1|h1
  ·exact h.an i h1
  ·have f1:=h.ak.lt;have f2:=h.sn.lt;have f3:=h.bg.lt;refine⟨⟨by omega,by omega,by omega⟩,fun hx=>?_⟩;have m1:=h.ma.ic.lt;have m2:=h.ma.le;have m3:=h.ma.jK.lt;rcases hx with(hx|hx)|(hx|hx)<;>omega
 have kf:aa (fun i=>i=g.fb) w7 (w7.setCell ⟨g.fb,7,none⟩ dZ):=(aa.refl (fun i=>i=g.fb) w7).setCell (p:=⟨g.fb,7,none⟩) (Or.inl rfl) _;have BD:aa (dC g nv) w (w7.setCell ⟨g.fb,7,none⟩ dZ):=(ks.trans (k7.mono (fun i hi=>Or.inr hi))).trans (kf.mono (fun i hi=>Or.inl (Or.inl hi)));refine⟨b7,?_,⟨BD,fun i hi=>?_⟩⟩
 ·rw[hT];refine⟨?_,s7.kept kf (fun hx=>hg.ap.1 hx.symm),g7.kept kf (fun hx=>hg.ap.2.1 hx.symm),?_,?_,?_,Mc,h.ma.Jj BD (fun i hi=>h.cI hg hi)⟩
  ·have:=b7.setCell 7 dZ;simpa using this
  ·simp only[Aj,Ax,Bb];rw[Xv];exact bR bk kf (fun i hi hx=>(Mc i hi).1.1 hx)
  ·have:=an9 (m:=m) (bh:=bh) (st:=st) h.sz;rw[hT]at this;exact this
  ·have:=ae1 (m:=m) (bh:=bh) (st:=st) h.fw;rw[hT]at this;exact this
 ·rcases hi with hi|hi
  ·exact Or.inl (Or.inl hi)
  ·rcases lM i hi with h1|h1
   ·exact Or.inl (Or.inr h1)
   ·exact Or.inr h1
def OA(g:FG)(u mn:Nat)(bh:Int)(sa:Option Addr)(sn sc:Nat)(b:Bool)(W:World):Prop:=(W.cell? ⟨g.fb,4,none⟩=some (.int .i32 bh)/\W.cell? ⟨g.fb,6,none⟩=some (.slice (some ⟨g.bb,0,none⟩) g.ms.length g.ms.length))/\(W.cell? ⟨g.mb,u*6+1,none⟩=some (.slice sa sn sc)/\W.cell? ⟨g.mb,u*6+4,none⟩=some (.int .i64 (mn:Int)))/\W.cell? ⟨g.bb,mn,none⟩=some (.bool b)
def ZE(g:FG)(u mn:Nat)(nv:Value)(W:World):Prop:=W.cell? ⟨g.fb,7,none⟩=some nv/\W.cell? ⟨g.mb,u*6+4,none⟩=some (.int .i64 (mn:Int))
theorem ajw{g:FG}(hg:g.Ok)(h:gu w g ah bh nv f)(hu:u<g.ms.length)(hk:(g.ms[u]).kind=1)(hb:0<=bh/\bh<=1114111):
 Calls prog 230 #[.pointer (some ⟨g.fb,0,none⟩),.pointer (some ⟨g.mb,u*6,none⟩),.int .i64 st] w fun e w'=>e=.returned (.tuple #[])/\∃dZ,gu w' g ah bh dZ (mT g.ms[u] bh st f)/\cF (dC g nv) (dC g dZ) w w':=by
 obtain⟨q,⟨sV,qE⟩,yD,mi⟩:=h.ma.ic.at hu;obtain⟨d0,d1,d2,d3,d4,d5⟩:=mi w h.ma.ic;have iS:=h.ma.vZ u sV hu;rw[qE]at iS;obtain⟨Q,hQ⟩:=hg.q;have hn:=(hg.ft u _ (Ae hu)).2.1 hk;obtain⟨mn,dG⟩:∃mn:Nat,(g.ms[u]).next=(mn:Int):=⟨(g.ms[u]).next.toNat,by omega⟩
 obtain⟨S,bs,e1,a2,a3,a4,a5,a6⟩:=iS.set hk;have hT:=a4.Xu ((hQ _ (A5 hu)).1 hk);have hIN:=hT.2 bh hb.1 hb.2;obtain⟨qk,bP,b_,bQ,bH,ff,BV,BY⟩:=q;simp only at d1 d4 yD e1 a2;subst e1;rw[yD.2.1,dG]at d4;have yC:mn<g.ms.length:=by omega
 have gz:mn<f.dF.length:=by rw[h.sz.2];exact yC
 have iF:(g.ms[u]).next.toNat=mn:=by rw[dG];rfl
 have F:Hid (∀W,aa af w W->Calls prog 112 #[.slice bP S.length bQ,.int .i32 bh] W fun e w'=>e=.returned (.bool (fP (g.ms[u]).sp (g.ms[u]).fo (g.ms[u]).nt bh))/\aa af W w'):=fun W kW=>by
  have iC:S≠ []->bs<w.heap.size:=fun az=>by have:=(a2 az).2.2;have:=h.ma.le;omega
  have:=Y6 W bP bQ bs S bh (fun az=>⟨(a2 az).1,Ar (iC az) kW.size⟩) (agG a3 kW iC) hT.1 a6;rw[hIN]at this;exact this
 have SN:Hid (∀W,aa af w W->OA g u mn bh bP S.length bQ (f.dF.getD mn true) W):=fun W kW=>by
  have h':=h.new kW;refine⟨⟨h'.ak.cell 4,h'.ak.cell 6⟩,⟨(kW.cell (p:=⟨g.mb,u*6+1,none⟩) h.ma.ic.lt (fun hx=>hx)).trans d1,(kW.cell (p:=⟨g.mb,u*6+4,none⟩) h.ma.ic.lt (fun hx=>hx)).trans d4⟩,?_⟩;rw[h'.bg.cell mn,Tm,T0 gz rfl];rfl
 have HH:=ab h;have HG:=ab hg;have uL:=ab iF;have HMN:=ab dG;have i1:¬((g.ms.length:Int)<=(mn:Int)):=by omega
 clear h hg d0 d1 d2 d3 d4 d5 mi qE sV yD iS hQ a2 a3 a4 a5 a6 hT hIN iF dG hn;go_in;go_wp2_with fail;refine gW (S:=OA g u mn bh bP S.length bQ (f.dF.getD mn true)) 21 (by kernel_rfl) rfl rfl rfl (by kernel_rfl) (by kernel_rfl) ?_;have aj:=SN.out w.drew (aa.refl _ _).drew;refine ai 0 6 (.pointer (some ⟨g.mb,u*6,none⟩)) aj ?_;refine ai 1 7 (.pointer (some ⟨g.mb,u*6,none⟩)) aj ?_;refine ai 2 8 (.pointer (some ⟨g.mb,u*6+1,none⟩)) aj ?_;refine ai 3 9 (.slice bP S.length bQ) aj ?_;refine ai 4 10 (.pointer (some ⟨g.fb,0,none⟩)) aj ?_;refine ai 5 11 (.pointer (some ⟨g.fb,0,none⟩)) aj ?_;refine ai 6 12 (.pointer (some ⟨g.fb,4,none⟩)) aj ?_;refine ai 7 13 (.int .i32 bh) aj ?_;simp only[Act.put,Aa,Ad,Ac];refine bN 8 fun K hK=>?_
 go_simp;refine(F.out _ (aa.refl _ _).drew).mono ?_;rintro e w1 ⟨rfl,yG⟩;dsimp only;have K1:=ab (((aa.refl af w).drew).trans yG);have eO:=SN.out w1 K1.out;refine hK.out _ _ eO (fun _=>?_);clear hK K yG aj
 cases AV:fP (g.ms[u]).sp (g.ms[u]).fo (g.ms[u]).nt bh
 ·have EQ:Hid (mT g.ms[u] bh st f=f):=by show _=_;unfold mT;rw[AV];simp
  clear AV;refine ai 9 15 (.bool false) eO ?_;simp only[Act.put,Aa,Ad,Ac];refine kY 10 16 undef eO ?_;simp only[Act.put,Aa,Ad,Ac];refine kY 11 17 undef eO ?_;simp only[Act.put,Aa,Ad,Ac];refine kY 12 18 undef eO ?_;simp only[Act.put,Aa,Ad,Ac];refine kY 13 19 undef eO ?_;simp only[Act.put,Aa,Ad,Ac];refine kY 14 20 undef eO ?_;simp only[Act.put,Aa,Ad,Ac];refine kY 15 21 undef eO ?_;simp only[Act.put,Aa,Ad,Ac];refine kY 16 22 undef eO ?_;simp only[Act.put,Aa,Ad,Ac];refine kY 17 23 undef eO ?_;simp only[Act.put,Aa,Ad,Ac];refine kY 18 24 undef eO ?_;simp only[Act.put,Aa,Ad,Ac];refine kY 19 25 undef eO ?_;simp only[Act.put,Aa,Ad,Ac];refine kY 20 26 undef eO ?_;simp only[Act.put,Aa,Ad,Ac];refine At (by kernel_rfl) ?_ _;unfold eJ;simp only[Al,Ag,Ai];go_simp;go_wp2_with fail;go_end0;refine⟨rfl,nv,?_,cF.of K1.out (fun i hi=>Or.inl hi)⟩;rw[EQ.out];exact HH.out.new K1.out
 ·generalize wV:f.dF.getD mn true=bb at eO
  have xP:=ab wV;clear wV;refine ai 9 15 (.bool true) eO ?_;simp only[Act.put,Aa,Ad,Ac];refine kY 10 16 (.pointer (some ⟨g.fb,0,none⟩)) eO ?_;simp only[Act.put,Aa,Ad,Ac];refine kY 11 17 (.pointer (some ⟨g.fb,0,none⟩)) eO ?_;simp only[Act.put,Aa,Ad,Ac];refine kY 12 18 (.pointer (some ⟨g.fb,6,none⟩)) eO ?_;simp only[Act.put,Aa,Ad,Ac];refine kY 13 19 (.slice (some ⟨g.bb,0,none⟩) g.ms.length g.ms.length) eO ?_;simp only[Act.put,Aa,Ad,Ac];refine kY 14 20 (.pointer (some ⟨g.mb,u*6,none⟩)) eO ?_;simp only[Act.put,Aa,Ad,Ac];refine kY 15 21 (.pointer (some ⟨g.mb,u*6,none⟩)) eO ?_;simp only[Act.put,Aa,Ad,Ac];refine kY 16 22 (.pointer (some ⟨g.mb,u*6+4,none⟩)) eO ?_;simp only[Act.put,Aa,Ad,Ac];refine kY 17 23 (.int .i64 (mn:Int)) eO ?_;simp only[Act.put,Aa,Ad,Ac];refine kY 18 24 (.pointer (some ⟨g.bb,mn,none⟩)) eO ?_;simp only[Act.put,Aa,Ad,Ac];refine kY 19 25 (.bool bb) eO ?_;simp only[Act.put,Aa,Ad,Ac];refine kY 20 26 (.bool (!bb)) eO ?_;simp only[Act.put,Aa,Ad,Ac];refine At (by kernel_rfl) ?_ _;unfold eJ;simp only[Al,Ag,Ai];go_simp
  cases bb
  ·have LF:=HH.out.new K1.out;obtain⟨qa,qb⟩:=LF.aaz.begin HG.out mn;have ht:(fP (g.ms[u]).sp (g.ms[u]).fo (g.ms[u]).nt bh&& !f.dF.getD (g.ms[u]).next.toNat true)=true:=by rw[AV,uL.out,xP.out];rfl
   have HT:=ab ht;have f3:w1.frozen? ⟨g.bb,mn,none⟩=false:=LF.bg.frozen mn;have f4:w1.cell? ⟨g.bb,mn,none⟩=some (.bool false):=eO.2.2
   have S2:Hid (∀W,aa af (w1.drew.setCell ⟨g.bb,mn,none⟩ (.bool true)) W->ZE g u mn nv W):=fun W kW=>by
    refine⟨(qa.kept kW (fun hx=>hx)).cell 7,?_⟩
    have h0:(w1.drew.setCell ⟨g.bb,mn,none⟩ (.bool true)).cell? ⟨g.mb,u*6+4,none⟩=some (.int .i64 (mn:Int)):=by
     have kb:aa (fun i=>i=g.bb) w1.drew (w1.drew.setCell ⟨g.bb,mn,none⟩ (.bool true)):=(aa.refl (fun i=>i=g.bb) w1.drew).setCell (p:=⟨g.bb,mn,none⟩) (Or.inl rfl) _;exact(kb.cell (p:=⟨g.mb,u*6+4,none⟩) LF.ma.ic.lt (fun hx=>HG.out.am.2.2 (Or.inl (Or.inl hx.symm)))).trans eO.2.1.2
    exact(kW.cell (p:=⟨g.mb,u*6+4,none⟩) (Bh _ _ h0) (fun hx=>hx)).trans h0
   have kE:=ab LF.aaz;clear LF qa qb ht AV;go_wp2_with fail;refine gW (S:=OA g u mn bh bP S.length bQ false) 9 (by kernel_rfl) rfl rfl rfl (by kernel_rfl) (by kernel_rfl) ?_;have rA:OA g u mn bh bP S.length bQ false w1.drew:=eO;refine ai 0 28 (.pointer (some ⟨g.fb,0,none⟩)) rA ?_;refine ai 1 29 (.pointer (some ⟨g.fb,0,none⟩)) rA ?_;refine ai 2 30 (.pointer (some ⟨g.fb,6,none⟩)) rA ?_;refine ai 3 31 (.slice (some ⟨g.bb,0,none⟩) g.ms.length g.ms.length) rA ?_;refine ai 4 32 (.pointer (some ⟨g.mb,u*6,none⟩)) rA ?_;refine ai 5 33 (.pointer (some ⟨g.mb,u*6,none⟩)) rA ?_;refine ai 6 34 (.pointer (some ⟨g.mb,u*6+4,none⟩)) rA ?_;refine ai 7 35 (.int .i64 (mn:Int)) rA ?_;refine ai 8 36 (.pointer (some ⟨g.bb,mn,none⟩)) rA ?_;simp only[Act.put,Aa,Ad,Ac];refine At (by kernel_rfl) ?_ _;unfold eJ;simp only[Al,Ag,Ai];go_simp;obtain⟨ao,cn,Mg⟩:=cA kE.out.nx
   have Oi:Hid (∀W w7 dZ,aa af (w1.drew.setCell ⟨g.bb,mn,none⟩ (.bool true)) W->w7.ownsRow 0 256 2 dZ (f.next.length+1) (eF f.next++[.int .i64 (mn:Int),.int .i64 st])->W.grownBy w7 nv.ownBlock->(dZ.ownBlock=nv.ownBlock\/dZ.ownBlock=some W.heap.size)->(w7.cell? ⟨g.fb,7,none⟩=some nv/\w7.cell? ⟨g.mb,u*6+4,none⟩=some (.int .i64 (mn:Int)))/\w7.frozen? ⟨g.fb,7,none⟩=false/\gu (w7.setCell ⟨g.fb,7,none⟩ dZ) g ah bh dZ (mT g.ms[u] bh st f)/\cF (dC g nv) (dC g dZ) w (w7.setCell ⟨g.fb,7,none⟩ dZ)):=fun W w7 dZ k0 bk dK cx=>by
    rw[<-HMN.out]at bk;have k0':aa af (w1.drew.setCell ⟨g.bb,(g.ms[u]).next.toNat,none⟩ (.bool true)) W:=by rw[uL.out];exact k0
    obtain⟨b7,p1,p2⟩:=gu.Ng HG.out kE.out HT.out k0' bk dK cx;have h4:=(S2.out W k0).2;have kG:aa (fun i=>nv.ownBlock=some i) W w7:=(aa.refl _ W).eN dK (fun j hj=>Or.inl hj);have h5:=(kG.cell (p:=⟨g.mb,u*6+4,none⟩) (Bh _ _ h4) (fun hx=>(kE.out.an _ hx).2 (Or.inl (Or.inl rfl)))).trans h4;exact⟨⟨b7.cell 7,h5⟩,b7.frozen 7,p1,(cF.of ((K1.out).trans ((aa.refl af w1).drew)) (fun i hi=>Or.inl hi)).trans p2⟩
   have nQ:Hid (∀W,aa af (w1.drew.setCell ⟨g.bb,mn,none⟩ (.bool true)) W->W.ownsRow 0 256 2 nv f.next.length (eF f.next)):=fun W k=>by
    have kb:aa (fun i=>i=g.bb) w1.drew (w1.drew.setCell ⟨g.bb,mn,none⟩ (.bool true)):=(aa.refl (fun i=>i=g.bb) w1.drew).setCell (p:=⟨g.bb,mn,none⟩) (Or.inl rfl) _;exact bR (bR kE.out.nx kb (fun i hi hx=>(kE.out.an i hi).1.2.2 hx)) k (fun i _ hx=>hx)
   have oY:f.next.length<=4001:=by have:=kE.out.fw;have:=HG.out.bT;unfold pB at*;omega
   obtain⟨i0,cP,di,dj,cY⟩:=Bo Tryz.VI;subst Mg;have ew:w1.drew.setCell ⟨g.bb,mn,none⟩ (.bool true)=(w1.setCell ⟨g.bb,mn,none⟩ (.bool true)).drew:=rfl;rw[ew]at S2 Oi nQ;clear ew;generalize(w1.setCell ⟨g.bb,mn,none⟩ (.bool true)).drew=w2 at*;clear eO rA kE f3 f4 HH xP SN F HT;go_wp2_with fail;refine gW (S:=ZE g u mn (.slice ao f.next.length cn)) 15 (by kernel_rfl) rfl rfl rfl (by kernel_rfl) (by kernel_rfl) ?_;have cw:=S2.out w2.drew (aa.refl _ _).drew;refine ai 0 37 (.pointer (some ⟨g.fb,0,none⟩)) cw ?_;refine ai 1 38 (.pointer (some ⟨g.fb,0,none⟩)) cw ?_;refine ai 2 39 (.pointer (some ⟨g.fb,0,none⟩)) cw ?_;refine ai 3 40 (.pointer (some ⟨g.fb,7,none⟩)) cw ?_;refine ai 4 41 (.slice ao f.next.length cn) cw ?_;refine ai 5 42 (.pointer (some ⟨g.mb,u*6,none⟩)) cw ?_;refine ai 6 43 (.pointer (some ⟨g.mb,u*6,none⟩)) cw ?_;refine ai 7 44 (.pointer (some ⟨g.mb,u*6+4,none⟩)) cw ?_;refine ai 8 45 (.int .i64 (mn:Int)) cw ?_;refine ai 9 46 (.int .i64 st) cw ?_;refine ai 10 47 (.agg #[.int .i64 (mn:Int),.int .i64 st]) cw ?_;simp only[Act.put,Aa,Ad,Ac];refine bN 11 fun K hK=>?_
   go_simp;have kA:aa af w2 (w2.drew.alloc (.cells #[.int .i64 (mn:Int),.int .i64 st] 256)):=((aa.refl af w2).drew).alloc _;refine hK.out _ _ (S2.out _ kA) (fun _=>?_);clear hK K;refine bN 12 fun K hK=>?_
   refine Rx rfl (.tmp 41) (.tmp 48) 151 rfl 0 256 i0 _ 2 16 underlying151 cP di dj cY rfl (by decide) _ _ _ rfl (nQ.out _ kA) ⟨w2.heap.size,0,none⟩ 1 1 [.int .i64 (mn:Int),.int .i64 st] rfl rfl ?nw (RE _ _) (by unfold maxLen;omega) (by omega) (Am _) ?_
   case nw=>
    intro j v hv;have hB:=aq.new w2 #[.int .i64 (mn:Int),.int .i64 st] 256;have e:(⟨w2.heap.size,0,none⟩:Addr).add j=⟨w2.heap.size,j,none⟩:=by unfold Addr.add;split<;>simp_all
    rw[e];exact(hB.cell j).trans (by simpa using hv)
   intro v' w7 ho dK cx;obtain⟨jd,c',rfl⟩:=cA ho;obtain⟨c7,f7,p1,p2⟩:=Oi.out _ _ _ kA ho dK cx;refine hK.out _ _ c7 (fun vq=>?_);have c7:=vq.1;clear hK K;have P1:=ab p1;have P2:=ab p2;refine ai 13 50 (.pointer (some ⟨g.fb,0,none⟩)) vq ?_;refine ai 14 51 (.pointer (some ⟨g.fb,7,none⟩)) vq ?_;simp only[Act.put,Aa,Ad,Ac];refine At (by kernel_rfl) ?_ _;unfold eJ;simp only[Al,Ag,Ai];go_simp;go_wp2_with fail;go_end0;exact⟨rfl,_,P1.out,P2.out⟩
  ·have EQ:Hid (mT g.ms[u] bh st f=f):=by show _=_;unfold mT;rw[AV,uL.out,xP.out];simp
   clear AV;go_wp2_with fail;go_end0;refine⟨rfl,nv,?_,cF.of K1.out (fun i hi=>Or.inl hi)⟩;rw[EQ.out];exact HH.out.new K1.out
theorem gu.akD{g:FG}(hg:g.Ok)(h:gu w g ah bh nv f)(u:Nat):gu (w.setCell ⟨g.sb,u,none⟩ (.bool true)) g ah bh nv (f.mark u)/\cF (dC g nv) (dC g nv) w (w.setCell ⟨g.sb,u,none⟩ (.bool true)):=by
 have ks:aa (fun i=>i=g.sb) w (w.setCell ⟨g.sb,u,none⟩ (.bool true)):=(aa.refl (fun i=>i=g.sb) w).setCell (p:=⟨g.sb,u,none⟩) (Or.inl rfl) _;have hs:=h.sn.setCell u (.bool true);rw[Z1]at hs;refine⟨⟨h.ak.kept ks (fun hx=>hg.ap.1 hx),hs,h.bg.kept ks (fun hx=>hg.ap.2.2 hx.symm),bR h.nx ks (fun i hi hx=>(h.an i hi).1.2.1 hx),⟨by simp[FS.mark,h.sz.1],h.sz.2⟩,h.fw,h.an,h.ma.Jj ks (fun i hx=>by rw[hx];exact hg.am.2.1)⟩,⟨ks.mono (fun i hx=>Or.inl (Or.inr (Or.inl hx))),fun i hi=>Or.inl hi⟩⟩
def XW(g:FG)(u:Nat)(ed ah bh:Int)(W:World):Prop:=W.cell? ⟨g.mb,u*6+2,none⟩=some (.int .i64 ed)/\W.cell? ⟨g.fb,3,none⟩=some (.int .i32 ah)/\W.cell? ⟨g.fb,4,none⟩=some (.int .i32 bh)
structure CF(w wr:World)(g:FG)(ah bh:Int)(nv lP:Value)(st:Int)(u0 u:Nat)(f f1:FS):Prop where
 fl:gu wr g ah bh lP f1
 dD:cF (dC g nv) (dC g lP) w wr
 eq:fK g.ms ah bh u0 st f=fK g.ms ah bh u st f1
theorem CF.go{wr:World}{g:FG}{lP pf:Value}{u0 u':Nat}{f1 f2:FS}(h:CF w wr g ah bh nv lP st u0 u f f1)(hf:gu w' g ah bh pf f2)(hg:cF (dC g lP) (dC g pf) wr w')(he:fK g.ms ah bh u st f1=fK g.ms ah bh u' st f2):CF w w' g ah bh nv pf st u0 u' f f2:=⟨hf,h.dD.trans hg,h.eq.trans he⟩
theorem ah3{g:FG}(hg:g.Ok)(hb:0<=bh/\bh<=1114111):∀(u0:Nat),u0<g.ms.length->∀(w:World) (nv:Value) (f:FS),gu w g ah bh nv f->
 Calls prog 229 #[.pointer (some ⟨g.fb,0,none⟩),.int .i64 (u0:Int),.int .i64 st] w fun e w'=>e=.returned (.bool (fK g.ms ah bh u0 st f).2)/\∃dZ,gu w' g ah bh dZ (fK g.ms ah bh u0 st f).1/\cF (dC g nv) (dC g dZ) w w':=by
 intro u0;induction u0 using Nat.strongRecOn with
 |_ u0 ih=>
 intro rM w nv f h;have IH:=ab ih;have HG:=ab hg;have dr:Hid (CF w w g ah bh nv nv st u0 u0 f f):=⟨h,cF.refl _ _,rfl⟩;clear ih hg h;go_in;go_wp2_with fail;go_loopg [1] u0 (fun kk v wr=>∃(u:Nat) (lP:Value) (f1:FS),v=.int .i64 (u:Int)/\kk=u/\u<=u0/\Hid (CF w wr g ah bh nv lP st u0 u f f1))
 case atStart=>exact⟨u0,nv,f,rfl,rfl,Ab _,dr⟩
 case round=>
  obtain⟨u,lP,f1,rfl,eT,huu,HI⟩:=hrel;clear dr;have hu:u<g.ms.length:=by omega
  have og:¬((g.ms.length:Int)<=(u:Int)):=by omega
  have hF:=HI.out.fl;have c5:wr.cell? ⟨g.fb,5,none⟩=some (.slice (some ⟨g.sb,0,none⟩) g.ms.length g.ms.length):=hF.ak.cell 5;have fM:u<f1.seen.length:=by rw[hF.sz.1];exact hu
  cases hs:f1.seen.getD u true with
  |true=>
   have cs:wr.cell? ⟨g.sb,u,none⟩=some (.bool true):=by rw[hF.sn.cell u,Tm,T0 fM hs];rfl
   have ax:Hid ((fK g.ms ah bh u0 st f).2=false/\gu wr g ah bh lP (fK g.ms ah bh u0 st f).1/\cF (dC g nv) (dC g lP) w wr):=by
    have:=HI.out.eq;rw[ah1 hu hs]at this;rw[this];exact⟨rfl,hF,HI.out.dD⟩
   clear hF HI IH HG hs;go_wp2_with fail;go_ret;exact⟨by rw[ax.out.1];rfl,lP,ax.out.2⟩
  |false=>
   have cs:wr.cell? ⟨g.sb,u,none⟩=some (.bool false):=by rw[hF.sn.cell u,Tm,T0 fM hs];rfl
   have fs:=hF.sn.frozen u;obtain⟨hM,hGo⟩:=hF.akD HG.out u;obtain⟨q,⟨sV,qE⟩,yD,mi⟩:=hM.ma.ic.at hu;obtain⟨d0,d1,d2,d3,d4,d5⟩:=mi _ hM.ma.ic;have iS:=hM.ma.vZ u sV hu;rw[qE]at iS;have EQ:=ab (ah2 HG.out.ft (ah:=ah) (bh:=bh) (st:=st) (Ae hu) hs);have lE:=ab (HG.out.ft u _ (Ae hu));have TK:=(ab fun(hk:(g.ms[u]).kind=1)=>ajw (st:=st) HG.out hM hu hk hb);have c0:(wr.setCell ⟨g.sb,u,none⟩ (.bool true)).cell? ⟨g.fb,0,none⟩=some (.slice (some ⟨g.mb,0,none⟩) g.ms.length g.c):=hM.ak.cell 0
   have SN:Hid (∀W,aa af (wr.setCell ⟨g.sb,u,none⟩ (.bool true)) W->XW g u (g.ms[u]).eo ah bh W):=fun W k=>by
    have h2:=hM.new k;obtain⟨_,_,d2',_⟩:=mi W h2.ma.ic;rw[iS.ed]at d2';exact⟨d2',h2.ak.cell 3,h2.ak.cell 4⟩
   have FO:=(ab fun(ed:Int) (W:World)=>abT W ed ah bh);have ek:=iS.k;have zN:=iS.nx;have zO:=iS.ot;have yz:=iS.kr;have HM:=ab hM;have oH:=ab hGo;generalize hm:g.ms[u]=m at*;clear hm mi qE sV yD iS hM hGo hF hs;obtain⟨qk,bP,b_,bQ,bH,ff,BV,BY⟩:=q;simp only at d0 d1 d2 d3 d4 d5 ek zN zO;subst ek zN zO;go_upto_region 3 with fail
   generalize wr.setCell ⟨g.sb,u,none⟩ (.bool true)=w2 at*
   clear c5 cs fs fM;by_cases k0:m.kind=0
   ·rw[k0]at d0
    have ax:Hid ((fK g.ms ah bh u0 st f).2=true/\gu w2 g ah bh lP (fK g.ms ah bh u0 st f).1/\cF (dC g nv) (dC g lP) w w2):=by
     have:=HI.out.eq.trans (EQ.out.1 k0);rw[this];exact⟨rfl,HM.out,HI.out.dD.trans oH.out⟩
    clear HI IH HG EQ lE TK SN FO HM oH;go_wp2_with fail;go_ret;exact⟨by rw[ax.out.1];rfl,lP,ax.out.2⟩
   ·by_cases k1:m.kind=1
    ·rw[k1]at d0;have F:=ab (TK.out k1);clear IH HG lE TK SN FO;go_wp2_with fail;refine(F.out).mono ?_;rintro e w3 ⟨rfl,pf,h3,g3⟩
     have ax:Hid ((fK g.ms ah bh u0 st f).2=false/\gu w3 g ah bh pf (fK g.ms ah bh u0 st f).1/\cF (dC g nv) (dC g pf) w w3):=by
      have:=HI.out.eq.trans (EQ.out.2.1 k1);rw[this];exact⟨rfl,h3,(HI.out.dD.trans oH.out).trans g3⟩
     clear h3 g3 F HI EQ HM oH;go_wp2_with fail;go_ret;exact⟨by rw[ax.out.1];rfl,pf,ax.out.2⟩
    ·have hN:=lE.out.2.2.1 (by omega);obtain⟨mn,dG⟩:∃mn:Nat,m.next=(mn:Int):=⟨m.next.toNat,by omega⟩
     rw[dG]at d4;have FT:mn<u:=(by omega);by_cases k2:m.kind=2
     ·rw[k2]at d0;have E2:=EQ.out.2.2.1 k2;rw[dG]at E2;have F:=(ab fun(W:World)=>FO.out m.eo W);obtain⟨kN,UQ⟩:∃kN,eU m.eo ah bh=kN:=⟨_,rfl⟩
      rw[UQ]at F E2;have E2:=ab E2;have HC:=ab UQ;clear UQ IH HG EQ lE TK FO;go_wp2_with fail;refine jW (gW (S:=XW g u m.eo ah bh) 13 (by kernel_rfl) rfl rfl rfl (by kernel_rfl) (by kernel_rfl) ?_);have aj:=SN.out w2.drew (aa.refl _ _).drew;refine ai 0 47 (.pointer (some ⟨g.mb,u*6,none⟩)) aj ?_;refine ai 1 48 (.pointer (some ⟨g.mb,u*6,none⟩)) aj ?_;refine ai 2 49 (.pointer (some ⟨g.mb,u*6+2,none⟩)) aj ?_;refine ai 3 50 (.int .i64 m.eo) aj ?_;refine ai 4 51 (.pointer (some ⟨g.fb,0,none⟩)) aj ?_;refine ai 5 52 (.pointer (some ⟨g.fb,0,none⟩)) aj ?_;refine ai 6 53 (.pointer (some ⟨g.fb,3,none⟩)) aj ?_;refine ai 7 54 (.int .i32 ah) aj ?_;refine ai 8 55 (.pointer (some ⟨g.fb,0,none⟩)) aj ?_;refine ai 9 56 (.pointer (some ⟨g.fb,0,none⟩)) aj ?_;refine ai 10 57 (.pointer (some ⟨g.fb,4,none⟩)) aj ?_;refine ai 11 58 (.int .i32 bh) aj ?_;simp only[Act.put,Aa,Ad,Ac];refine bN 12 fun K hK=>?_
      go_simp;refine(F.out _).mono ?_;rintro e w3 ⟨rfl,rfl⟩;dsimp only;refine hK.out _ _ aj (fun _=>?_);clear hK K;refine At (by kernel_rfl) ?_ _;unfold eJ;simp only[Al,Ag,Ai];go_simp;refine jw ?_;have kd:aa af w2 w2.drew:=(aa.refl af w2).drew;have xT:=ab (HM.out.new kd);have N7:=ab (oH.out.new kd);clear kd aj SN HM oH F;generalize w2.drew=w3 at*
      cases kN with
      |false=>
       have ax:Hid ((fK g.ms ah bh u0 st f).2=false/\gu w3 g ah bh lP (fK g.ms ah bh u0 st f).1/\cF (dC g nv) (dC g lP) w w3):=by
        have:=HI.out.eq.trans E2.out;rw[this];exact⟨rfl,xT.out,HI.out.dD.trans N7.out⟩
       clear HI E2 xT N7 HC;go_wp2_with fail;go_ret;exact⟨by rw[ax.out.1];rfl,lP,ax.out.2⟩
      |true=>
       have ax:Hid (CF w w3 g ah bh nv lP st u0 mn f (f1.mark u)):=HI.out.go xT.out N7.out (by rw[E2.out];simp);clear HI E2 xT N7 HC;go_wp2_with fail;go_roundg mn
       case measure=>omega
       case rel=>exact⟨mn,lP,_,rfl,rfl,by omega,ax⟩
     ·by_cases k3:m.kind=3
      ·rw[k3]at d0;have E3:=EQ.out.2.2.2.1 k3;rw[dG]at E3;have ax:=ab (HI.out.go HM.out oH.out E3);clear E3 HI IH HG EQ lE TK SN FO HM oH;go_wp2_with fail;go_roundg mn
       case measure=>omega
       case rel=>exact⟨mn,lP,_,rfl,rfl,by omega,ax⟩
      ·have k4:m.kind=4:=(by omega);rw[k4]at d0;have hO:=lE.out.2.2.2 k4;obtain⟨mo,fL⟩:∃mo:Nat,m.a_=(mo:Int):=⟨m.a_.toNat,by omega⟩
       rw[fL]at d5;have abR:mo<u:=(by omega);have E4:=EQ.out.2.2.2.2 k4;rw[dG,fL]at E4;have F:=IH.out mn (by omega) (by omega) w2 lP _ HM.out
       cases hr:(fK g.ms ah bh (mn:Int) st (f1.mark u)).2 with
       |true=>
        rw[hr]at E4 F;have F:=ab F;have E4:=ab E4;clear IH HG EQ lE TK SN FO;go_wp2_with fail;refine(F.out).mono ?_;rintro e w3 ⟨rfl,pf,h3,g3⟩
        have ax:Hid ((fK g.ms ah bh u0 st f).2=true/\gu w3 g ah bh pf (fK g.ms ah bh u0 st f).1/\cF (dC g nv) (dC g pf) w w3):=by
         have:fK g.ms ah bh u0 st f=fK g.ms ah bh (mn:Int) st (f1.mark u):=HI.out.eq.trans (by rw[E4.out];simp);rw[this];exact⟨hr,h3,(HI.out.dD.trans oH.out).trans g3⟩
        clear h3 g3 F HI HM oH E4 hr;go_wp2_with fail;go_ret;exact⟨by rw[ax.out.1];rfl,pf,ax.out.2⟩
       |false=>
        rw[hr]at E4 F;have F:=ab F;have E4:=ab E4;have D5:Hid (∀w3 pf,cF (dC g lP) (dC g pf) w2 w3->w3.cell? ⟨g.mb,u*6+5,none⟩=some (.int .i64 (mo:Int))):=(fun w3 pf kh=>(kh.kept.cell (p:=⟨g.mb,u*6+5,none⟩) HM.out.ma.ic.lt (fun hx=>HM.out.cI HG.out hx (Or.inl (Or.inl rfl)))).trans d5);clear IH EQ lE TK SN FO;go_wp2_with fail;refine(F.out).mono ?_;rintro e w3 ⟨rfl,pf,h3,g3⟩;have d5':=D5.out _ _ g3;have ax:Hid (CF w w3 g ah bh nv pf st u0 mo f (fK g.ms ah bh (mn:Int) st (f1.mark u)).1):=HI.out.go h3 (oH.out.trans g3) (by rw[E4.out];simp);clear h3 g3 F HI HM oH E4 hr HG D5;go_wp2_with fail;go_roundg mo
        case measure=>omega
        case rel=>exact⟨mo,pf,_,rfl,rfl,by omega,ax⟩
end Go.Proofs.YtpdnofhackjfdaaGreatDoor
