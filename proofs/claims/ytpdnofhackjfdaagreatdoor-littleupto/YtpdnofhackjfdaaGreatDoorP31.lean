/- Package threads' -/
import Derived.Test.YtpdnofhackjfdaaGreatDoorP29
set_option linter.all false
set_option maxRecDepth 100000
set_option maxHeartbeats 8000000
namespace Go.Proofs.YtpdnofhackjfdaaGreatDoor
open Go.Proofs.Tryz
open Go.RowKit Go.Maps
variable {f:FS} {ah bh st:Int} {i u:Nat} {K O O1:Nat->Prop} {nv:Value} {W w w' w1 w2:World}
structure cH(O O':Nat->Prop)(w w':World):Prop where
 kept:aa O w w'
 aj:∀i,O' i->O i\/w.heap.size<=i
theorem cH.refl(O:Nat->Prop)(w:World):cH O O w w:=⟨aa.refl _ _,fun _ h=>Or.inl h⟩
theorem cH.trans{O2:Nat->Prop}(h:cH O O1 w w1)(k:cH O1 O2 w1 w2):cH O O2 w w2 where
 kept:=h.kept.bZ k.kept (fun i hi hx=>(h.aj i hx).resolve_right (by omega))
 aj i hi:=by
  have:=h.kept.size;rcases k.aj i hi with h1|h1
  ·exact h.aj i h1
  ·right;omega
theorem cH.new(h:cH O O1 w w1)(k:aa af w1 w2):cH O O1 w w2:=⟨h.kept.bZ k (fun _ _ hx=>hx.elim),h.aj⟩
theorem cH.of{O':Nat->Prop}(k:aa af w w')(h:∀i,O' i->O i\/w.heap.size<=i):cH O O' w w':=⟨k.mono (fun _ hx=>hx.elim),h⟩
theorem lg{P:Program}{ops:Array Oper}{Q:Exit->Act->World->Prop}{md:Region.Mode}{S:World->Prop}(i:Nat)(d:Tmp)(v:Value){oi:Oper}{fuel:Nat}{dH:Array Bool}{a:Act}(hS:S w)
 (h:wpAnyH P md ops Q S fuel (dH.setIfInBounds i true) (a.put (some d) v) w)
 (hi:ops[i]? =some oi:=by rfl)(hd:oi.dst=some d:=by rfl)(hs:Region.noSelect ops=true:=by kernel_rfl)(hf:Region.free md ops dH i=true:=by kernel_rfl)(hr:(Region.ready md ops dH).contains i=true:=by kernel_rfl)
 (hQ:∀c a w,Q (.panic c) (a.put oi.dst v) w->Q (.panic c) a w:=by exact fun _ _ _ h=>h)(hy:YieldsIf P ops S oi v a:=by first|exact Or.inr ⟨by simp[Region.wanted,yielded],rfl⟩|exact Or.inl ⟨by simp[Region.wanted,yielded],fun W eT=>by first|(go_simp;done)|(cases eT;repeat cases ‹_/\_›;go_simp)⟩):wpAnyH P md ops Q S (fuel+1) dH a w:=
 pA i d v hi hd hs hf hr hQ hy hS h
theorem agI{bs:Nat}{S:bF}(h:fV w bs S)(k:aa af w W)(hb:S≠ []->bs<w.heap.size):fV W bs S:=fun i hi=>by
 have az:S≠ []:=by intro e;subst e;simp at hi
 exact⟨(k.cell (p:=⟨bs,i*2,none⟩) (hb az) (fun h=>h)).trans (h i hi).1,(k.cell (p:=⟨bs,i*2+1,none⟩) (hb az) (fun h=>h)).trans (h i hi).2⟩
structure FG where
 fb:Nat
 sb:Nat
 bb:Nat
 lo:Nat
 hi:Nat
 mb:Nat
 c:Nat
 vs:List Sv
 ms:List MS
 st:Int
 G:Int
def FG.mv(g:FG):Value:=.slice (some ⟨g.mb,0,none⟩) g.ms.length g.c
def FG.cM(g:FG)(i:Nat):Prop:=(i=g.mb\/(g.lo<=i/\i<g.hi))\/(i=0\/i=1)
structure FG.Ok(g:FG):Prop where
 fL:eW g.ms
 q:∃Q,iL Q g.ms
 bJ:g.ms.length<=4001
 ap:g.fb≠g.sb/\g.fb≠g.bb/\g.sb≠g.bb
 am:¬g.cM g.fb/\¬g.cM g.sb/\¬g.cM g.bb
def dG(g:FG)(nv:Value)(i:Nat):Prop:=(i=g.fb\/i=g.sb\/i=g.bb)\/nv.ownBlock=some i
def kO(l:List Bool):List Value:=l.map fun b=>.bool b
def eI(l:List bG):List Value:=l.flatMap fun t=>[.int .i64 t.1,.int .i64 t.2]
theorem Ht(l:List bG):(eI l).length=l.length*2:=by
 induction l with
 |nil=>rfl
 |cons t ts ih=>
  have:eI (t::ts)=[.int .i64 t.1,.int .i64 t.2]++eI ts:=rfl;rw[this,Aj,ih];simp;omega
theorem XG(l:List bG)(t:bG):eI (l++[t])=eI l++[.int .i64 t.1,.int .i64 t.2]:=by unfold eI;simp
structure gQa(w:World)(g:FG)(ah bh:Int)(nv:Value)(f:FS):Prop where
 aj:aq w g.fb #[g.mv,.int .i64 g.st,.int .i64 g.G,.int .i32 ah,.int .i32 bh,.slice (some ⟨g.sb,0,none⟩) g.ms.length g.ms.length,.slice (some ⟨g.bb,0,none⟩) g.ms.length g.ms.length,nv] 183
 sn:aq w g.sb (kO f.seen).toArray 4
 bg:aq w g.bb (kO f.dI).toArray 4
 nx:w.ownsRow 0 256 2 nv f.next.length (eI f.next)
 sz:DX g.ms.length f
 fw:oP g.ms.length f
 an:∀i,nv.ownBlock=some i->(i≠g.fb/\i≠g.sb/\i≠g.bb)/\¬g.cM i
 ma:jt w g.lo g.hi g.mb g.c g.vs g.ms
theorem gQa.cM{g:FG}(h:gQa w g ah bh nv f)(hg:g.Ok)(hi:dG g nv i):¬g.cM i:=by
 rcases hi with(rfl|rfl|rfl)|hi
 ·exact hg.am.1
 ·exact hg.am.2.1
 ·exact hg.am.2.2
 ·exact(h.an i hi).2
theorem gQa.lt{g:FG}(h:gQa w g ah bh nv f)(hi:dG g nv i):i<w.heap.size:=by
 rcases hi with(rfl|rfl|rfl)|hi
 ·exact h.aj.lt
 ·exact h.sn.lt
 ·exact h.bg.lt
 ·exact(dE h.nx hi).2
theorem jt.Jw{g:FG}(h:jt w g.lo g.hi g.mb g.c g.vs g.ms)(k:aa K w w')(hK:∀i,K i->¬g.cM i):jt w' g.lo g.hi g.mb g.c g.vs g.ms:=
 ⟨h.iw.kept k (fun hx=>hK _ hx (Or.inl (Or.inl rfl))),fun i a b=>(h.we i a b).kept k (fun j j1 j2 hx=>hK j hx (Or.inl (Or.inr ⟨j1,j2⟩))) h.le,Bb h.le k.size,h.j8.kept k (fun hx=>hK _ hx (Or.inr (Or.inl rfl))) (fun hx=>hK _ hx (Or.inr (Or.inr rfl)))⟩
theorem gQa.kept{g:FG}(h:gQa w g ah bh nv f)(k:aa K w w')(hK:∀i,K i->¬dG g nv i/\¬g.cM i):gQa w' g ah bh nv f:=
 ⟨h.aj.kept k (fun hx=>(hK _ hx).1 (Or.inl (Or.inl rfl))),h.sn.kept k (fun hx=>(hK _ hx).1 (Or.inl (Or.inr (Or.inl rfl)))),h.bg.kept k (fun hx=>(hK _ hx).1 (Or.inl (Or.inr (Or.inr rfl)))),bY h.nx k (fun i hi hx=>(hK _ hx).1 (Or.inr hi)),h.sz,h.fw,h.an,h.ma.Jw k (fun i hx=>(hK _ hx).2)⟩
theorem gQa.new{g:FG}(h:gQa w g ah bh nv f)(k:aa af w w'):gQa w' g ah bh nv f:=h.kept k (fun _ hx=>hx.elim)
theorem gQa.aat{g:FG}(h:gQa w g ah bh nv f):gQa w.drew g ah bh nv f:=h.new (aa.refl _ _).drew
theorem ZY(l:List Bool)(k:Nat)(b:Bool):(kO l).toArray.setIfInBounds k (.bool b)=(kO (l.set k b)).toArray:=by
 simp[kO,Fk]
theorem Tv(l:List Bool)(k:Nat):(kO l).toArray[k]? =(l[k]?).map Value.bool:=by simp[kO]
theorem Ub{l:List Bool}{k:Nat}{d b:Bool}(hk:k<l.length)(h:l.getD k d=b):l[k]? =some b:=by
 rw[Af,Ae hk]at h;simp at h;rw[Ae hk,h]
theorem Tryz.VY:(prog.info? 256).map (fun i=>(i.zero,i.size,i.bytes))=some (some (.agg #[.int .i64 0,.int .i64 0]),2,16):=by kernel_rfl
theorem RR(a b:Int):∀u∈ [Value.int .i64 a,.int .i64 b],u.oneCell'=true:=by intro u hu;simp at hu;rcases hu with rfl|rfl<;>rfl
theorem gQa.begin{g:FG}(hg:g.Ok)(h:gQa w g ah bh nv f)(k:Nat):aq (w.setCell ⟨g.bb,k,none⟩ (.bool true)) g.fb #[g.mv,.int .i64 g.st,.int .i64 g.G,.int .i32 ah,.int .i32 bh,.slice (some ⟨g.sb,0,none⟩) g.ms.length g.ms.length,.slice (some ⟨g.bb,0,none⟩) g.ms.length g.ms.length,nv] 183/\aq (w.setCell ⟨g.bb,k,none⟩ (.bool true)) g.bb (kO (f.dI.set k true)).toArray 4:=by
 refine⟨h.aj.y9 (p:=⟨g.bb,k,none⟩) hg.ap.2.1 _,?_⟩;have:=h.bg.setCell k (.bool true);rw[ZY]at this;exact this
theorem gQa.Ns{w7:World}{g:FG}{eu:Value}{m:MS}(hg:g.Ok)(h:gQa w g ah bh nv f)(ht:(eV m.sp m.fo m.nt bh&& !f.dI.getD m.next.toNat true)=true)
 (k0:aa af (w.setCell ⟨g.bb,m.next.toNat,none⟩ (.bool true)) W)(bt:w7.ownsRow 0 256 2 eu (f.next.length+1) (eI f.next++[.int .i64 m.next,.int .i64 st]))(dN:W.grownBy w7 nv.ownBlock)(cB:eu.ownBlock=nv.ownBlock\/eu.ownBlock=some W.heap.size):
 aq w7 g.fb #[g.mv,.int .i64 g.st,.int .i64 g.G,.int .i32 ah,.int .i32 bh,.slice (some ⟨g.sb,0,none⟩) g.ms.length g.ms.length,.slice (some ⟨g.bb,0,none⟩) g.ms.length g.ms.length,nv] 183/\
 gQa (w7.setCell ⟨g.fb,7,none⟩ eu) g ah bh eu (l7 m bh st f)/\cH (dG g nv) (dG g eu) w (w7.setCell ⟨g.fb,7,none⟩ eu):=by
 have hT:l7 m bh st f=⟨f.seen,f.dI.set m.next.toNat true,f.next++[(m.next,st)]⟩:=if_pos ht;have ks:aa (dG g nv) w (w.setCell ⟨g.bb,m.next.toNat,none⟩ (.bool true)):=(aa.refl (dG g nv) w).setCell (p:=⟨g.bb,m.next.toNat,none⟩) (Or.inl (Or.inl (Or.inr (Or.inr rfl)))) _;have kb:aa (fun i=>i=g.bb) w (w.setCell ⟨g.bb,m.next.toNat,none⟩ (.bool true)):=(aa.refl (fun i=>i=g.bb) w).setCell (p:=⟨g.bb,m.next.toNat,none⟩) (Or.inl rfl) _;have k7:aa (fun i=>nv.ownBlock=some i) (w.setCell ⟨g.bb,m.next.toNat,none⟩ (.bool true)) w7:=(k0.mono (fun i hx=>hx.elim)).eQ dN (fun j hj=>Or.inl hj);have Jk:w.heap.size<=W.heap.size:=Bb ks.size k0.size
 have lP:∀i,eu.ownBlock=some i->nv.ownBlock=some i\/w.heap.size<=i:=fun i hi=>by
  rcases cB with hl|hl
  ·exact Or.inl (hl▸hi)
  ·rw[hl]at hi;cases hi;right;exact Jk
 obtain⟨q1,q2⟩:=h.begin hg m.next.toNat
 have b7:=q1.kept k7 (fun hx=>(h.an _ hx).1.1 rfl);have g7:=q2.kept k7 (fun hx=>(h.an _ hx).1.2.2 rfl);have s7:aq w7 g.sb (kO f.seen).toArray 4:=(h.sn.kept kb (fun hx=>hg.ap.2.2 hx)).kept k7 (fun hx=>(h.an _ hx).1.2.1 rfl)
 have Mq:∀i,eu.ownBlock=some i->(i≠g.fb/\i≠g.sb/\i≠g.bb)/\¬g.cM i:=fun i hi=>by
  rcases lP i hi with h1|h1
  ·exact h.an i h1
  ·have f1:=h.aj.lt;have f2:=h.sn.lt;have f3:=h.bg.lt;refine⟨⟨by omega,by omega,by omega⟩,fun hx=>?_⟩;have m1:=h.ma.iw.lt;have m2:=h.ma.le;have m3:=h.ma.j8.lt;rcases hx with(hx|hx)|(hx|hx)<;>omega
 have kf:aa (fun i=>i=g.fb) w7 (w7.setCell ⟨g.fb,7,none⟩ eu):=(aa.refl (fun i=>i=g.fb) w7).setCell (p:=⟨g.fb,7,none⟩) (Or.inl rfl) _;have CD:aa (dG g nv) w (w7.setCell ⟨g.fb,7,none⟩ eu):=(ks.trans (k7.mono (fun i hi=>Or.inr hi))).trans (kf.mono (fun i hi=>Or.inl (Or.inl hi)));refine⟨b7,?_,⟨CD,fun i hi=>?_⟩⟩
 ·rw[hT];refine⟨?_,s7.kept kf (fun hx=>hg.ap.1 hx.symm),g7.kept kf (fun hx=>hg.ap.2.1 hx.symm),?_,?_,?_,Mq,h.ma.Jw CD (fun i hi=>h.cM hg hi)⟩
  ·have:=b7.setCell 7 eu;simpa using this
  ·simp only[Aj,Av,A8];rw[XG];exact bY bt kf (fun i hi hx=>(Mq i hi).1.1 hx)
  ·have:=aoK (m:=m) (bh:=bh) (st:=st) h.sz;rw[hT]at this;exact this
  ·have:=aeY (m:=m) (bh:=bh) (st:=st) h.fw;rw[hT]at this;exact this
 ·rcases hi with hi|hi
  ·exact Or.inl (Or.inl hi)
  ·rcases lP i hi with h1|h1
   ·exact Or.inl (Or.inr h1)
   ·exact Or.inr h1
def OL(g:FG)(u mn:Nat)(bh:Int)(sa:Option Addr)(sn sc:Nat)(b:Bool)(W:World):Prop:=(W.cell? ⟨g.fb,4,none⟩=some (.int .i32 bh)/\W.cell? ⟨g.fb,6,none⟩=some (.slice (some ⟨g.bb,0,none⟩) g.ms.length g.ms.length))/\(W.cell? ⟨g.mb,u*6+1,none⟩=some (.slice sa sn sc)/\W.cell? ⟨g.mb,u*6+4,none⟩=some (.int .i64 (mn:Int)))/\W.cell? ⟨g.bb,mn,none⟩=some (.bool b)
def ZC(g:FG)(u mn:Nat)(nv:Value)(W:World):Prop:=W.cell? ⟨g.fb,7,none⟩=some nv/\W.cell? ⟨g.mb,u*6+4,none⟩=some (.int .i64 (mn:Int))
theorem ajO{g:FG}(hg:g.Ok)(h:gQa w g ah bh nv f)(hu:u<g.ms.length)(hk:(g.ms[u]).kind=1)(hb:0<=bh/\bh<=1114111):
 Calls prog 230 #[.pointer (some ⟨g.fb,0,none⟩),.pointer (some ⟨g.mb,u*6,none⟩),.int .i64 st] w fun e w'=>e=.returned (.tuple #[])/\∃eu,gQa w' g ah bh eu (l7 g.ms[u] bh st f)/\cH (dG g nv) (dG g eu) w w':=by
 obtain⟨q,⟨sV,qF⟩,yC,mu⟩:=h.ma.iw.at hu;obtain⟨d0,d1,d2,d3,d4,d5⟩:=mu w h.ma.iw;have iU:=h.ma.we u sV hu;rw[qF]at iU;obtain⟨Q,hQ⟩:=hg.q;have hn:=(hg.fL u _ (Ae hu)).2.1 hk;obtain⟨mn,dJ⟩:∃mn:Nat,(g.ms[u]).next=(mn:Int):=⟨(g.ms[u]).next.toNat,by omega⟩
 obtain⟨S,bs,e1,a2,a3,a4,a5,a6⟩:=iU.set hk;have hT:=a4.XF ((hQ _ (A5 hu)).1 hk);have hIN:=hT.2 bh hb.1 hb.2;obtain⟨qk,bS,cd,bT,bI,fi,CO,CP⟩:=q;simp only at d1 d4 yC e1 a2;subst e1;rw[yC.2.1,dJ]at d4;have yA:mn<g.ms.length:=by omega
 have gD:mn<f.dI.length:=by rw[h.sz.2];exact yA
 have iA:(g.ms[u]).next.toNat=mn:=by rw[dJ];rfl
 have F:Hid (∀W,aa af w W->Calls prog 112 #[.slice bS S.length bT,.int .i32 bh] W fun e w'=>e=.returned (.bool (eV (g.ms[u]).sp (g.ms[u]).fo (g.ms[u]).nt bh))/\aa af W w'):=fun W kW=>by
  have iz:S≠ []->bs<w.heap.size:=fun az=>by have:=(a2 az).2.2;have:=h.ma.le;omega
  have:=Y6 W bS bT bs S bh (fun az=>⟨(a2 az).1,As (iz az) kW.size⟩) (agI a3 kW iz) hT.1 a6;rw[hIN]at this;exact this
 have SN:Hid (∀W,aa af w W->OL g u mn bh bS S.length bT (f.dI.getD mn true) W):=fun W kW=>by
  have h':=h.new kW;refine⟨⟨h'.aj.cell 4,h'.aj.cell 6⟩,⟨(kW.cell (p:=⟨g.mb,u*6+1,none⟩) h.ma.iw.lt (fun hx=>hx)).trans d1,(kW.cell (p:=⟨g.mb,u*6+4,none⟩) h.ma.iw.lt (fun hx=>hx)).trans d4⟩,?_⟩;rw[h'.bg.cell mn,Tv,Ub gD rfl];rfl
 have HH:=ab h;have HG:=ab hg;have uK:=ab iA;have HMN:=ab dJ;have i1:¬((g.ms.length:Int)<=(mn:Int)):=by omega
 clear h hg d0 d1 d2 d3 d4 d5 mu qF sV yC iU hQ a2 a3 a4 a5 a6 hT hIN iA dJ hn;go_in;go_wp2_with fail;refine gW (S:=OL g u mn bh bS S.length bT (f.dI.getD mn true)) 21 (by kernel_rfl) rfl rfl rfl (by kernel_rfl) (by kernel_rfl) ?_;have ak:=SN.o w.drew (aa.refl _ _).drew;refine ai 0 6 (.pointer (some ⟨g.mb,u*6,none⟩)) ak ?_;refine ai 1 7 (.pointer (some ⟨g.mb,u*6,none⟩)) ak ?_;refine ai 2 8 (.pointer (some ⟨g.mb,u*6+1,none⟩)) ak ?_;refine ai 3 9 (.slice bS S.length bT) ak ?_;refine ai 4 10 (.pointer (some ⟨g.fb,0,none⟩)) ak ?_;refine ai 5 11 (.pointer (some ⟨g.fb,0,none⟩)) ak ?_;refine ai 6 12 (.pointer (some ⟨g.fb,4,none⟩)) ak ?_;refine ai 7 13 (.int .i32 bh) ak ?_;simp only[Act.put,Aa,Ad,Ac];refine bQ 8 fun K hK=>?_
 go_simp;refine(F.o _ (aa.refl _ _).drew).mono ?_;rintro e w1 ⟨rfl,yG⟩;dsimp only;have K1:=ab (((aa.refl af w).drew).trans yG);have eR:=SN.o w1 K1.o;refine hK.o _ _ eR (fun _=>?_);clear hK K yG ak
 cases BK:eV (g.ms[u]).sp (g.ms[u]).fo (g.ms[u]).nt bh
 ·have EQ:Hid (l7 g.ms[u] bh st f=f):=by show _=_;unfold l7;rw[BK];simp
  clear BK;refine ai 9 15 (.bool false) eR ?_;simp only[Act.put,Aa,Ad,Ac];refine lg 10 16 undef eR ?_;simp only[Act.put,Aa,Ad,Ac];refine lg 11 17 undef eR ?_;simp only[Act.put,Aa,Ad,Ac];refine lg 12 18 undef eR ?_;simp only[Act.put,Aa,Ad,Ac];refine lg 13 19 undef eR ?_;simp only[Act.put,Aa,Ad,Ac];refine lg 14 20 undef eR ?_;simp only[Act.put,Aa,Ad,Ac];refine lg 15 21 undef eR ?_;simp only[Act.put,Aa,Ad,Ac];refine lg 16 22 undef eR ?_;simp only[Act.put,Aa,Ad,Ac];refine lg 17 23 undef eR ?_;simp only[Act.put,Aa,Ad,Ac];refine lg 18 24 undef eR ?_;simp only[Act.put,Aa,Ad,Ac];refine lg 19 25 undef eR ?_;simp only[Act.put,Aa,Ad,Ac];refine lg 20 26 undef eR ?_;simp only[Act.put,Aa,Ad,Ac];refine At (by kernel_rfl) ?_ _;unfold eN;simp only[Ak,Ah,Ai];go_simp;go_wp2_with fail;go_end0;refine⟨rfl,nv,?_,cH.of K1.o (fun i hi=>Or.inl hi)⟩;rw[EQ.o];exact HH.o.new K1.o
 ·generalize wV:f.dI.getD mn true=bb at eR
  have tD:=ab wV;clear wV;refine ai 9 15 (.bool true) eR ?_;simp only[Act.put,Aa,Ad,Ac];refine lg 10 16 (.pointer (some ⟨g.fb,0,none⟩)) eR ?_;simp only[Act.put,Aa,Ad,Ac];refine lg 11 17 (.pointer (some ⟨g.fb,0,none⟩)) eR ?_;simp only[Act.put,Aa,Ad,Ac];refine lg 12 18 (.pointer (some ⟨g.fb,6,none⟩)) eR ?_;simp only[Act.put,Aa,Ad,Ac];refine lg 13 19 (.slice (some ⟨g.bb,0,none⟩) g.ms.length g.ms.length) eR ?_;simp only[Act.put,Aa,Ad,Ac];refine lg 14 20 (.pointer (some ⟨g.mb,u*6,none⟩)) eR ?_;simp only[Act.put,Aa,Ad,Ac];refine lg 15 21 (.pointer (some ⟨g.mb,u*6,none⟩)) eR ?_;simp only[Act.put,Aa,Ad,Ac];refine lg 16 22 (.pointer (some ⟨g.mb,u*6+4,none⟩)) eR ?_;simp only[Act.put,Aa,Ad,Ac];refine lg 17 23 (.int .i64 (mn:Int)) eR ?_;simp only[Act.put,Aa,Ad,Ac];refine lg 18 24 (.pointer (some ⟨g.bb,mn,none⟩)) eR ?_;simp only[Act.put,Aa,Ad,Ac];refine lg 19 25 (.bool bb) eR ?_;simp only[Act.put,Aa,Ad,Ac];refine lg 20 26 (.bool (!bb)) eR ?_;simp only[Act.put,Aa,Ad,Ac];refine At (by kernel_rfl) ?_ _;unfold eN;simp only[Ak,Ah,Ai];go_simp
  cases bb
  ·have LZ:=HH.o.new K1.o;obtain⟨qa,qb⟩:=LZ.aat.begin HG.o mn;have ht:(eV (g.ms[u]).sp (g.ms[u]).fo (g.ms[u]).nt bh&& !f.dI.getD (g.ms[u]).next.toNat true)=true:=by rw[BK,uK.o,tD.o];rfl
   have HT:=ab ht;have f3:w1.frozen? ⟨g.bb,mn,none⟩=false:=LZ.bg.frozen mn;have f4:w1.cell? ⟨g.bb,mn,none⟩=some (.bool false):=eR.2.2
   have S2:Hid (∀W,aa af (w1.drew.setCell ⟨g.bb,mn,none⟩ (.bool true)) W->ZC g u mn nv W):=fun W kW=>by
    refine⟨(qa.kept kW (fun hx=>hx)).cell 7,?_⟩
    have h0:(w1.drew.setCell ⟨g.bb,mn,none⟩ (.bool true)).cell? ⟨g.mb,u*6+4,none⟩=some (.int .i64 (mn:Int)):=by
     have kb:aa (fun i=>i=g.bb) w1.drew (w1.drew.setCell ⟨g.bb,mn,none⟩ (.bool true)):=(aa.refl (fun i=>i=g.bb) w1.drew).setCell (p:=⟨g.bb,mn,none⟩) (Or.inl rfl) _;exact(kb.cell (p:=⟨g.mb,u*6+4,none⟩) LZ.ma.iw.lt (fun hx=>HG.o.am.2.2 (Or.inl (Or.inl hx.symm)))).trans eR.2.1.2
    exact(kW.cell (p:=⟨g.mb,u*6+4,none⟩) (Bk _ _ h0) (fun hx=>hx)).trans h0
   have j_:=ab LZ.aat;clear LZ qa qb ht BK;go_wp2_with fail;refine gW (S:=OL g u mn bh bS S.length bT false) 9 (by kernel_rfl) rfl rfl rfl (by kernel_rfl) (by kernel_rfl) ?_;have rB:OL g u mn bh bS S.length bT false w1.drew:=eR;refine ai 0 28 (.pointer (some ⟨g.fb,0,none⟩)) rB ?_;refine ai 1 29 (.pointer (some ⟨g.fb,0,none⟩)) rB ?_;refine ai 2 30 (.pointer (some ⟨g.fb,6,none⟩)) rB ?_;refine ai 3 31 (.slice (some ⟨g.bb,0,none⟩) g.ms.length g.ms.length) rB ?_;refine ai 4 32 (.pointer (some ⟨g.mb,u*6,none⟩)) rB ?_;refine ai 5 33 (.pointer (some ⟨g.mb,u*6,none⟩)) rB ?_;refine ai 6 34 (.pointer (some ⟨g.mb,u*6+4,none⟩)) rB ?_;refine ai 7 35 (.int .i64 (mn:Int)) rB ?_;refine ai 8 36 (.pointer (some ⟨g.bb,mn,none⟩)) rB ?_;simp only[Act.put,Aa,Ad,Ac];refine At (by kernel_rfl) ?_ _;unfold eN;simp only[Ak,Ah,Ai];go_simp;obtain⟨ao,cn,Mw⟩:=cK j_.o.nx
   have Ov:Hid (∀W w7 eu,aa af (w1.drew.setCell ⟨g.bb,mn,none⟩ (.bool true)) W->w7.ownsRow 0 256 2 eu (f.next.length+1) (eI f.next++[.int .i64 (mn:Int),.int .i64 st])->W.grownBy w7 nv.ownBlock->(eu.ownBlock=nv.ownBlock\/eu.ownBlock=some W.heap.size)->(w7.cell? ⟨g.fb,7,none⟩=some nv/\w7.cell? ⟨g.mb,u*6+4,none⟩=some (.int .i64 (mn:Int)))/\w7.frozen? ⟨g.fb,7,none⟩=false/\gQa (w7.setCell ⟨g.fb,7,none⟩ eu) g ah bh eu (l7 g.ms[u] bh st f)/\cH (dG g nv) (dG g eu) w (w7.setCell ⟨g.fb,7,none⟩ eu)):=fun W w7 eu k0 bt dN cB=>by
    rw[<-HMN.o]at bt;have k0':aa af (w1.drew.setCell ⟨g.bb,(g.ms[u]).next.toNat,none⟩ (.bool true)) W:=by rw[uK.o];exact k0
    obtain⟨b7,p1,p2⟩:=gQa.Ns HG.o j_.o HT.o k0' bt dN cB;have h4:=(S2.o W k0).2;have kG:aa (fun i=>nv.ownBlock=some i) W w7:=(aa.refl _ W).eQ dN (fun j hj=>Or.inl hj);have h5:=(kG.cell (p:=⟨g.mb,u*6+4,none⟩) (Bk _ _ h4) (fun hx=>(j_.o.an _ hx).2 (Or.inl (Or.inl rfl)))).trans h4;exact⟨⟨b7.cell 7,h5⟩,b7.frozen 7,p1,(cH.of ((K1.o).trans ((aa.refl af w1).drew)) (fun i hi=>Or.inl hi)).trans p2⟩
   have nX:Hid (∀W,aa af (w1.drew.setCell ⟨g.bb,mn,none⟩ (.bool true)) W->W.ownsRow 0 256 2 nv f.next.length (eI f.next)):=fun W k=>by
    have kb:aa (fun i=>i=g.bb) w1.drew (w1.drew.setCell ⟨g.bb,mn,none⟩ (.bool true)):=(aa.refl (fun i=>i=g.bb) w1.drew).setCell (p:=⟨g.bb,mn,none⟩) (Or.inl rfl) _;exact bY (bY j_.o.nx kb (fun i hi hx=>(j_.o.an i hi).1.2.2 hx)) k (fun i _ hx=>hx)
   have pg:f.next.length<=4001:=by have:=j_.o.fw;have:=HG.o.bJ;unfold oP at*;omega
   obtain⟨i0,cS,dm,dp,c_⟩:=Bp Tryz.VY;subst Mw;have ew:w1.drew.setCell ⟨g.bb,mn,none⟩ (.bool true)=(w1.setCell ⟨g.bb,mn,none⟩ (.bool true)).drew:=rfl;rw[ew]at S2 Ov nX;clear ew;generalize(w1.setCell ⟨g.bb,mn,none⟩ (.bool true)).drew=w2 at*;clear eR rB j_ f3 f4 HH tD SN F HT;go_wp2_with fail;refine gW (S:=ZC g u mn (.slice ao f.next.length cn)) 15 (by kernel_rfl) rfl rfl rfl (by kernel_rfl) (by kernel_rfl) ?_;have cx:=S2.o w2.drew (aa.refl _ _).drew;refine ai 0 37 (.pointer (some ⟨g.fb,0,none⟩)) cx ?_;refine ai 1 38 (.pointer (some ⟨g.fb,0,none⟩)) cx ?_;refine ai 2 39 (.pointer (some ⟨g.fb,0,none⟩)) cx ?_;refine ai 3 40 (.pointer (some ⟨g.fb,7,none⟩)) cx ?_;refine ai 4 41 (.slice ao f.next.length cn) cx ?_;refine ai 5 42 (.pointer (some ⟨g.mb,u*6,none⟩)) cx ?_;refine ai 6 43 (.pointer (some ⟨g.mb,u*6,none⟩)) cx ?_;refine ai 7 44 (.pointer (some ⟨g.mb,u*6+4,none⟩)) cx ?_;refine ai 8 45 (.int .i64 (mn:Int)) cx ?_;refine ai 9 46 (.int .i64 st) cx ?_;refine ai 10 47 (.agg #[.int .i64 (mn:Int),.int .i64 st]) cx ?_;simp only[Act.put,Aa,Ad,Ac];refine bQ 11 fun K hK=>?_
   go_simp;have kA:aa af w2 (w2.drew.alloc (.cells #[.int .i64 (mn:Int),.int .i64 st] 256)):=((aa.refl af w2).drew).alloc _;refine hK.o _ _ (S2.o _ kA) (fun _=>?_);clear hK K;refine bQ 12 fun K hK=>?_
   refine RK rfl (.tmp 41) (.tmp 48) 151 rfl 0 256 i0 _ 2 16 underlying151 cS dm dp c_ rfl (by decide) _ _ _ rfl (nX.o _ kA) ⟨w2.heap.size,0,none⟩ 1 1 [.int .i64 (mn:Int),.int .i64 st] rfl rfl ?nw (RR _ _) (by unfold maxLen;omega) (by omega) (Ao _) ?_
   case nw=>
    intro j v hv;have hB:=aq.new w2 #[.int .i64 (mn:Int),.int .i64 st] 256;have e:(⟨w2.heap.size,0,none⟩:Addr).add j=⟨w2.heap.size,j,none⟩:=by unfold Addr.add;split<;>simp_all
    rw[e];exact(hB.cell j).trans (by simpa using hv)
   intro v' w7 ho dN cB;obtain⟨jg,c',rfl⟩:=cK ho;obtain⟨c7,f7,p1,p2⟩:=Ov.o _ _ _ kA ho dN cB;refine hK.o _ _ c7 (fun vq=>?_);have c7:=vq.1;clear hK K;have P1:=ab p1;have P2:=ab p2;refine ai 13 50 (.pointer (some ⟨g.fb,0,none⟩)) vq ?_;refine ai 14 51 (.pointer (some ⟨g.fb,7,none⟩)) vq ?_;simp only[Act.put,Aa,Ad,Ac];refine At (by kernel_rfl) ?_ _;unfold eN;simp only[Ak,Ah,Ai];go_simp;go_wp2_with fail;go_end0;exact⟨rfl,_,P1.o,P2.o⟩
  ·have EQ:Hid (l7 g.ms[u] bh st f=f):=by show _=_;unfold l7;rw[BK,uK.o,tD.o];simp
   clear BK;go_wp2_with fail;go_end0;refine⟨rfl,nv,?_,cH.of K1.o (fun i hi=>Or.inl hi)⟩;rw[EQ.o];exact HH.o.new K1.o
theorem gQa.akX{g:FG}(hg:g.Ok)(h:gQa w g ah bh nv f)(u:Nat):gQa (w.setCell ⟨g.sb,u,none⟩ (.bool true)) g ah bh nv (f.mark u)/\cH (dG g nv) (dG g nv) w (w.setCell ⟨g.sb,u,none⟩ (.bool true)):=by
 have ks:aa (fun i=>i=g.sb) w (w.setCell ⟨g.sb,u,none⟩ (.bool true)):=(aa.refl (fun i=>i=g.sb) w).setCell (p:=⟨g.sb,u,none⟩) (Or.inl rfl) _;have hs:=h.sn.setCell u (.bool true);rw[ZY]at hs;refine⟨⟨h.aj.kept ks (fun hx=>hg.ap.1 hx),hs,h.bg.kept ks (fun hx=>hg.ap.2.2 hx.symm),bY h.nx ks (fun i hi hx=>(h.an i hi).1.2.1 hx),⟨by simp[FS.mark,h.sz.1],h.sz.2⟩,h.fw,h.an,h.ma.Jw ks (fun i hx=>by rw[hx];exact hg.am.2.1)⟩,⟨ks.mono (fun i hx=>Or.inl (Or.inr (Or.inl hx))),fun i hi=>Or.inl hi⟩⟩
def X6(g:FG)(u:Nat)(ed ah bh:Int)(W:World):Prop:=W.cell? ⟨g.mb,u*6+2,none⟩=some (.int .i64 ed)/\W.cell? ⟨g.fb,3,none⟩=some (.int .i32 ah)/\W.cell? ⟨g.fb,4,none⟩=some (.int .i32 bh)
structure C_(w wr:World)(g:FG)(ah bh:Int)(nv lS:Value)(st:Int)(u0 u:Nat)(f f1:FS):Prop where
 fl:gQa wr g ah bh lS f1
 dA:cH (dG g nv) (dG g lS) w wr
 eq:fH g.ms ah bh u0 st f=fH g.ms ah bh u st f1
theorem C_.go{wr:World}{g:FG}{lS py:Value}{u0 u':Nat}{f1 f2:FS}(h:C_ w wr g ah bh nv lS st u0 u f f1)(hf:gQa w' g ah bh py f2)(hg:cH (dG g lS) (dG g py) wr w')(he:fH g.ms ah bh u st f1=fH g.ms ah bh u' st f2):C_ w w' g ah bh nv py st u0 u' f f2:=⟨hf,h.dA.trans hg,h.eq.trans he⟩
theorem aic{g:FG}(hg:g.Ok)(hb:0<=bh/\bh<=1114111):∀(u0:Nat),u0<g.ms.length->∀(w:World) (nv:Value) (f:FS),gQa w g ah bh nv f->
 Calls prog 229 #[.pointer (some ⟨g.fb,0,none⟩),.int .i64 (u0:Int),.int .i64 st] w fun e w'=>e=.returned (.bool (fH g.ms ah bh u0 st f).2)/\∃eu,gQa w' g ah bh eu (fH g.ms ah bh u0 st f).1/\cH (dG g nv) (dG g eu) w w':=by
 intro u0;induction u0 using Nat.strongRecOn with
 |_ u0 ih=>
 intro uh w nv f h;have IH:=ab ih;have HG:=ab hg;have du:Hid (C_ w w g ah bh nv nv st u0 u0 f f):=⟨h,cH.refl _ _,rfl⟩;clear ih hg h;go_in;go_wp2_with fail;go_loopg [1] u0 (fun kk v wr=>∃(u:Nat) (lS:Value) (f1:FS),v=.int .i64 (u:Int)/\kk=u/\u<=u0/\Hid (C_ w wr g ah bh nv lS st u0 u f f1))
 case atStart=>exact⟨u0,nv,f,rfl,rfl,Ab _,du⟩
 case round=>
  obtain⟨u,lS,f1,rfl,eZ,huu,HI⟩:=hrel;clear du;have hu:u<g.ms.length:=by omega
  have oy:¬((g.ms.length:Int)<=(u:Int)):=by omega
  have hF:=HI.o.fl;have c5:wr.cell? ⟨g.fb,5,none⟩=some (.slice (some ⟨g.sb,0,none⟩) g.ms.length g.ms.length):=hF.aj.cell 5;have ib:u<f1.seen.length:=by rw[hF.sz.1];exact hu
  cases hs:f1.seen.getD u true with
  |true=>
   have cs:wr.cell? ⟨g.sb,u,none⟩=some (.bool true):=by rw[hF.sn.cell u,Tv,Ub ib hs];rfl
   have ax:Hid ((fH g.ms ah bh u0 st f).2=false/\gQa wr g ah bh lS (fH g.ms ah bh u0 st f).1/\cH (dG g nv) (dG g lS) w wr):=by
    have:=HI.o.eq;rw[aib hu hs]at this;rw[this];exact⟨rfl,hF,HI.o.dA⟩
   clear hF HI IH HG hs;go_wp2_with fail;go_ret;exact⟨by rw[ax.o.1];rfl,lS,ax.o.2⟩
  |false=>
   have cs:wr.cell? ⟨g.sb,u,none⟩=some (.bool false):=by rw[hF.sn.cell u,Tv,Ub ib hs];rfl
   have fs:=hF.sn.frozen u;obtain⟨hM,hGo⟩:=hF.akX HG.o u;obtain⟨q,⟨sV,qF⟩,yC,mu⟩:=hM.ma.iw.at hu;obtain⟨d0,d1,d2,d3,d4,d5⟩:=mu _ hM.ma.iw;have iU:=hM.ma.we u sV hu;rw[qF]at iU;have EQ:=ab (aaQ HG.o.fL (ah:=ah) (bh:=bh) (st:=st) (Ae hu) hs);have lE:=ab (HG.o.fL u _ (Ae hu));have TK:=(ab fun(hk:(g.ms[u]).kind=1)=>ajO (st:=st) HG.o hM hu hk hb);have c0:(wr.setCell ⟨g.sb,u,none⟩ (.bool true)).cell? ⟨g.fb,0,none⟩=some (.slice (some ⟨g.mb,0,none⟩) g.ms.length g.c):=hM.aj.cell 0
   have SN:Hid (∀W,aa af (wr.setCell ⟨g.sb,u,none⟩ (.bool true)) W->X6 g u (g.ms[u]).eE ah bh W):=fun W k=>by
    have h2:=hM.new k;obtain⟨_,_,d2',_⟩:=mu W h2.ma.iw;rw[iU.ed]at d2';exact⟨d2',h2.aj.cell 3,h2.aj.cell 4⟩
   have FO:=(ab fun(ed:Int) (W:World)=>abP W ed ah bh);have ek:=iU.k;have zR:=iU.nx;have zS:=iU.ot;have yx:=iU.kr;have HM:=ab hM;have mL:=ab hGo;generalize hm:g.ms[u]=m at*;clear hm mu qF sV yC iU hM hGo hF hs;obtain⟨qk,bS,cd,bT,bI,fi,CO,CP⟩:=q;simp only at d0 d1 d2 d3 d4 d5 ek zR zS;subst ek zR zS;go_upto_region 3 with fail
   generalize wr.setCell ⟨g.sb,u,none⟩ (.bool true)=w2 at*
   clear c5 cs fs ib;by_cases k0:m.kind=0
   ·rw[k0]at d0
    have ax:Hid ((fH g.ms ah bh u0 st f).2=true/\gQa w2 g ah bh lS (fH g.ms ah bh u0 st f).1/\cH (dG g nv) (dG g lS) w w2):=by
     have:=HI.o.eq.trans (EQ.o.1 k0);rw[this];exact⟨rfl,HM.o,HI.o.dA.trans mL.o⟩
    clear HI IH HG EQ lE TK SN FO HM mL;go_wp2_with fail;go_ret;exact⟨by rw[ax.o.1];rfl,lS,ax.o.2⟩
   ·by_cases k1:m.kind=1
    ·rw[k1]at d0;have F:=ab (TK.o k1);clear IH HG lE TK SN FO;go_wp2_with fail;refine(F.o).mono ?_;rintro e w3 ⟨rfl,py,h3,g3⟩
     have ax:Hid ((fH g.ms ah bh u0 st f).2=false/\gQa w3 g ah bh py (fH g.ms ah bh u0 st f).1/\cH (dG g nv) (dG g py) w w3):=by
      have:=HI.o.eq.trans (EQ.o.2.1 k1);rw[this];exact⟨rfl,h3,(HI.o.dA.trans mL.o).trans g3⟩
     clear h3 g3 F HI EQ HM mL;go_wp2_with fail;go_ret;exact⟨by rw[ax.o.1];rfl,py,ax.o.2⟩
    ·have hN:=lE.o.2.2.1 (by omega);obtain⟨mn,dJ⟩:∃mn:Nat,m.next=(mn:Int):=⟨m.next.toNat,by omega⟩
     rw[dJ]at d4;have Gx:mn<u:=(by omega);by_cases k2:m.kind=2
     ·rw[k2]at d0;have E2:=EQ.o.2.2.1 k2;rw[dJ]at E2;have F:=(ab fun(W:World)=>FO.o m.eE W);obtain⟨jV,U5⟩:∃jV,e_ m.eE ah bh=jV:=⟨_,rfl⟩
      rw[U5]at F E2;have E2:=ab E2;have HC:=ab U5;clear U5 IH HG EQ lE TK FO;go_wp2_with fail;refine j9 (gW (S:=X6 g u m.eE ah bh) 13 (by kernel_rfl) rfl rfl rfl (by kernel_rfl) (by kernel_rfl) ?_);have ak:=SN.o w2.drew (aa.refl _ _).drew;refine ai 0 47 (.pointer (some ⟨g.mb,u*6,none⟩)) ak ?_;refine ai 1 48 (.pointer (some ⟨g.mb,u*6,none⟩)) ak ?_;refine ai 2 49 (.pointer (some ⟨g.mb,u*6+2,none⟩)) ak ?_;refine ai 3 50 (.int .i64 m.eE) ak ?_;refine ai 4 51 (.pointer (some ⟨g.fb,0,none⟩)) ak ?_;refine ai 5 52 (.pointer (some ⟨g.fb,0,none⟩)) ak ?_;refine ai 6 53 (.pointer (some ⟨g.fb,3,none⟩)) ak ?_;refine ai 7 54 (.int .i32 ah) ak ?_;refine ai 8 55 (.pointer (some ⟨g.fb,0,none⟩)) ak ?_;refine ai 9 56 (.pointer (some ⟨g.fb,0,none⟩)) ak ?_;refine ai 10 57 (.pointer (some ⟨g.fb,4,none⟩)) ak ?_;refine ai 11 58 (.int .i32 bh) ak ?_;simp only[Act.put,Aa,Ad,Ac];refine bQ 12 fun K hK=>?_
      go_simp;refine(F.o _).mono ?_;rintro e w3 ⟨rfl,rfl⟩;dsimp only;refine hK.o _ _ ak (fun _=>?_);clear hK K;refine At (by kernel_rfl) ?_ _;unfold eN;simp only[Ak,Ah,Ai];go_simp;refine jy ?_;have kd:aa af w2 w2.drew:=(aa.refl af w2).drew;have xS:=ab (HM.o.new kd);have Og:=ab (mL.o.new kd);clear kd ak SN HM mL F;generalize w2.drew=w3 at*
      cases jV with
      |false=>
       have ax:Hid ((fH g.ms ah bh u0 st f).2=false/\gQa w3 g ah bh lS (fH g.ms ah bh u0 st f).1/\cH (dG g nv) (dG g lS) w w3):=by
        have:=HI.o.eq.trans E2.o;rw[this];exact⟨rfl,xS.o,HI.o.dA.trans Og.o⟩
       clear HI E2 xS Og HC;go_wp2_with fail;go_ret;exact⟨by rw[ax.o.1];rfl,lS,ax.o.2⟩
      |true=>
       have ax:Hid (C_ w w3 g ah bh nv lS st u0 mn f (f1.mark u)):=HI.o.go xS.o Og.o (by rw[E2.o];simp);clear HI E2 xS Og HC;go_wp2_with fail;go_roundg mn
       case measure=>omega
       case rel=>exact⟨mn,lS,_,rfl,rfl,by omega,ax⟩
     ·by_cases k3:m.kind=3
      ·rw[k3]at d0;have E3:=EQ.o.2.2.2.1 k3;rw[dJ]at E3;have ax:=ab (HI.o.go HM.o mL.o E3);clear E3 HI IH HG EQ lE TK SN FO HM mL;go_wp2_with fail;go_roundg mn
       case measure=>omega
       case rel=>exact⟨mn,lS,_,rfl,rfl,by omega,ax⟩
      ·have k4:m.kind=4:=(by omega);rw[k4]at d0;have hO:=lE.o.2.2.2 k4;obtain⟨mo,gI⟩:∃mo:Nat,m.a_=(mo:Int):=⟨m.a_.toNat,by omega⟩
       rw[gI]at d5;have abN:mo<u:=(by omega);have E4:=EQ.o.2.2.2.2 k4;rw[dJ,gI]at E4;have F:=IH.o mn (by omega) (by omega) w2 lS _ HM.o
       cases hr:(fH g.ms ah bh (mn:Int) st (f1.mark u)).2 with
       |true=>
        rw[hr]at E4 F;have F:=ab F;have E4:=ab E4;clear IH HG EQ lE TK SN FO;go_wp2_with fail;refine(F.o).mono ?_;rintro e w3 ⟨rfl,py,h3,g3⟩
        have ax:Hid ((fH g.ms ah bh u0 st f).2=true/\gQa w3 g ah bh py (fH g.ms ah bh u0 st f).1/\cH (dG g nv) (dG g py) w w3):=by
         have:fH g.ms ah bh u0 st f=fH g.ms ah bh (mn:Int) st (f1.mark u):=HI.o.eq.trans (by rw[E4.o];simp);rw[this];exact⟨hr,h3,(HI.o.dA.trans mL.o).trans g3⟩
        clear h3 g3 F HI HM mL E4 hr;go_wp2_with fail;go_ret;exact⟨by rw[ax.o.1];rfl,py,ax.o.2⟩
       |false=>
        rw[hr]at E4 F;have F:=ab F;have E4:=ab E4;have D5:Hid (∀w3 py,cH (dG g lS) (dG g py) w2 w3->w3.cell? ⟨g.mb,u*6+5,none⟩=some (.int .i64 (mo:Int))):=(fun w3 py mq=>(mq.kept.cell (p:=⟨g.mb,u*6+5,none⟩) HM.o.ma.iw.lt (fun hx=>HM.o.cM HG.o hx (Or.inl (Or.inl rfl)))).trans d5);clear IH EQ lE TK SN FO;go_wp2_with fail;refine(F.o).mono ?_;rintro e w3 ⟨rfl,py,h3,g3⟩;have d5':=D5.o _ _ g3;have ax:Hid (C_ w w3 g ah bh nv py st u0 mo f (fH g.ms ah bh (mn:Int) st (f1.mark u)).1):=HI.o.go h3 (mL.o.trans g3) (by rw[E4.o];simp);clear h3 g3 F HI HM mL E4 hr HG D5;go_wp2_with fail;go_roundg mo
        case measure=>omega
        case rel=>exact⟨mo,py,_,rfl,rfl,by omega,ax⟩
