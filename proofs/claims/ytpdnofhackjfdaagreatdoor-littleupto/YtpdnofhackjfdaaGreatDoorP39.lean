/- Package marks -/
import Derived.Test.YtpdnofhackjfdaaGreatDoorP38
set_option linter.all false
set_option maxRecDepth 100000
set_option maxHeartbeats 8000000
namespace Go.Proofs.YtpdnofhackjfdaaGreatDoor
open Go.Proofs.Tryz
open Go.RowKit Go.Maps
variable {e:Ending} {g:FG} {bh place v:Int} {M aJ:List Int} {s s':dt} {c eb k n p p':Nat} {K:Nat->Prop} {ao:Option Addr} {t':TG} {mv fC nw:Value} {W w w' w7:World}
theorem amb{base e:Nat}{xs:List Value}(h:w.ownsRow base e 1 (.slice ao n c) n xs)(hk:k<=n):w.ownsRow base e 1 (.slice ao k c) k (xs.take k):=by
 have hx:=h.1;refine⟨by rw[Dq];omega,?_⟩;rcases h.2 with⟨h2,h3⟩|⟨g,cap,aM,h3,h4,h5,h6,h7,h8,h9⟩
 ·simp only[Bq]at h2;obtain⟨rfl,rfl,rfl⟩:=h2;obtain rfl:k=0:=by omega
  exact Or.inl ⟨rfl,rfl⟩
 ·simp only[Bq]at h3;obtain⟨rfl,_,rfl⟩:=h3;refine Or.inr ⟨g,c,aM,rfl,h4,h5,by omega,h7,h8,?_⟩;rw[<-h9,List.take_take];congr 1;omega
structure gY where
 m:MC
 t:TG
 mp:Nat
 mo:Int
 ca:Option Addr
 cb:Nat
 cc:Nat
structure wG(g:FG)(x:gY):Prop where
 ok:g.Ok
 ms:x.m.ms=g.ms/\x.m.st=g.st
 st:0<=g.st/\g.st<g.ms.length
 mo:2<=x.mo/\x.mo<=1000000000
 zJ:x.m.cl.Pairwise (· <= ·)
 bJ:x.m.cl.length<=2000000
 cls:tA x.m.ms x.m.cl
def dy(eb:Nat)(g:FG)(x:gY)(mv:Value)(i:Nat):Prop:=i=eb\/x.t.B i\/i=x.mp\/i=g.fb\/i=g.sb\/i=g.bb\/mv.ownBlock=some i
structure fF(w:World)(eb:Nat)(g:FG)(x:gY)(p:Nat)(s:dt)(M:List Int)(mv:Value):Prop where
 aj:aq w eb (pM g.st (.pointer (some ⟨g.fb,0,none⟩)) (o_ g.ms) (.slice x.ca x.m.cl.length x.cc) x.mo x.mp (.pointer (some ⟨p,0,none⟩)) mv) 159
 row:w.ownsRow 0 3 1 mv M.length (cY M)
 map:∃D,lH w x.mp x.mo x.t.T D
 nf:iE w x.m x.t
 qN:x.t.T p=some s
 fA:jc w g
 cls:zt w x.ca x.cb x.m.cl
 ap:J6 g x.t eb x.mp
 uY:¬g.cM eb/\∀i,x.t.B i->¬g.cM i
 lt:x.mp<w.heap.size
 mY:∀i,mv.ownBlock=some i->(i≠eb/\¬x.t.B i/\i≠x.mp/\i≠g.fb/\i≠g.sb/\i≠g.bb)/\¬g.cM i
 cb:x.m.cl≠ []->¬dy eb g x mv x.cb
theorem fF.kept{x:gY}(h:fF w eb g x p s M mv)(k:aa K w w')(hK:∀i,K i->(¬dy eb g x mv i/\¬g.cM i)/\(x.m.cl≠ []->i≠x.cb)):fF w' eb g x p s M mv:=by
 have hk:∀i,dy eb g x mv i->¬K i:=fun i hi hx=>(hK i hx).1.1 hi
 obtain⟨D,hD⟩:=h.map;exact⟨h.aj.kept k (hk eb (Or.inl rfl)),bY h.row k (fun i hi=>hk i (Or.inr (Or.inr (Or.inr (Or.inr (Or.inr (Or.inr hi))))))),⟨D,hD.kept k (hk _ (Or.inr (Or.inr (Or.inl rfl))))⟩,h.nf.kept k (fun i hi hx=>hk i (Or.inr (Or.inl hx)) hi),h.qN,h.fA.kept k (fun i hi=>⟨fun hx=>hk i (by unfold dy;rcases hx with hx|hx|hx<;>simp[hx]) hi,(hK i hi).1.2⟩),h.cls.kept k (fun az hx=>(hK _ hx).2 az rfl),h.ap,h.uY,As h.lt k.size,h.mY,h.cb⟩
theorem fF.new{x:gY}(h:fF w eb g x p s M mv)(k:aa af w w'):fF w' eb g x p s M mv:=h.kept k (fun _ hx=>hx.elim)
theorem fF.gR{x:gY}(h:fF w eb g x p s M mv){i:Nat}(hi:dy eb g x mv i):i<w.heap.size:=by
 obtain⟨_,_,_,_,_,x1,⟨x2,_⟩,⟨x3,_⟩⟩:=h.fA.ex;rcases hi with hi|hi|hi|hi|hi|hi|hi
 ·rw[hi];exact h.aj.lt
 ·exact h.nf.lt i hi
 ·rw[hi];exact h.lt
 ·rw[hi];exact x1.lt
 ·rw[hi];exact x2.lt
 ·rw[hi];exact x3.lt
 ·exact(dE h.row hi).2
theorem fF.l8{x:gY}{M':List Int}(h:fF w eb g x p s M mv)(k:aa K w w7)(hK:∀i,K i->i=eb\/mv.ownBlock=some i)
 (hB:aq w7 eb (pM g.st (.pointer (some ⟨g.fb,0,none⟩)) (o_ g.ms) (.slice x.ca x.m.cl.length x.cc) x.mo x.mp (.pointer (some ⟨p',0,none⟩)) fC) 159)(hR:w7.ownsRow 0 3 1 fC M'.length (cY M'))(hN:x.t.T p'=some s')(hl:∀i,fC.ownBlock=some i->mv.ownBlock=some i\/w.heap.size<=i):fF w7 eb g x p' s' M' fC:=by
 have hd:∀i,K i->(¬x.t.B i/\i≠x.mp/\i≠g.fb/\i≠g.sb/\i≠g.bb)/\¬g.cM i:=fun i hi=>by
  rcases hK i hi with e|e
  ·rw[e];exact⟨⟨h.ap.eB,h.ap.em,h.ap.ef.1,h.ap.ef.2.1,h.ap.ef.2.2⟩,h.uY.1⟩
  ·exact⟨⟨(h.mY i e).1.2.1,(h.mY i e).1.2.2.1,(h.mY i e).1.2.2.2.1,(h.mY i e).1.2.2.2.2.1,(h.mY i e).1.2.2.2.2.2⟩,(h.mY i e).2⟩
 obtain⟨D,hD⟩:=h.map;refine⟨hB,hR,⟨D,hD.kept k (fun hx=>(hd _ hx).1.2.1 rfl)⟩,h.nf.kept k (fun i hi=>(hd i hi).1.1),hN,h.fA.kept k (fun i hi=>⟨by have:=(hd i hi).1;omega,(hd i hi).2⟩),h.cls.kept k (fun az hx=>h.cb az (by rcases hK _ hx with e|e;exact Or.inl e;exact Or.inr (Or.inr (Or.inr (Or.inr (Or.inr (Or.inr e))))))),h.ap,h.uY,As h.lt k.size,fun i hi=>?_,fun az hx=>?_⟩
 ·rcases hl i hi with e|e
  ·exact h.mY i e
  ·have f1:=h.gR (i:=eb) (Or.inl rfl);have f2:=h.gR (i:=x.mp) (Or.inr (Or.inr (Or.inl rfl)));have f3:=h.gR (i:=g.fb) (by unfold dy;simp);have f4:=h.gR (i:=g.sb) (by unfold dy;simp);have f5:=h.gR (i:=g.bb) (by unfold dy;simp);exact⟨⟨by omega,fun hx=>by have:=h.nf.lt i hx;omega,by omega,by omega,by omega,by omega⟩,fun hx=>by have:=uv h.fA hx;omega⟩
 ·rcases hx with hx|hx|hx|hx|hx|hx|hx
  ·exact h.cb az (Or.inl hx)
  ·exact h.cb az (Or.inr (Or.inl hx))
  ·exact h.cb az (Or.inr (Or.inr (Or.inl hx)))
  ·exact h.cb az (by unfold dy;simp[hx])
  ·exact h.cb az (by unfold dy;simp[hx])
  ·exact h.cb az (by unfold dy;simp[hx])
  ·rcases hl _ hx with e|e
   ·exact h.cb az (by unfold dy;simp[e])
   ·have:=(h.cls.at_ az).2;omega
theorem Pe(st:Int)(fo:Value)(ed:Bool)(cl:Value)(mo:Int)(mp:Nat)(nw mk Nf:Value):(pM st fo ed cl mo mp nw mk).setIfInBounds 7 Nf=pM st fo ed cl mo mp nw Nf:=rfl
theorem aaF(st:Int)(fo:Value)(ed:Bool)(cl:Value)(mo:Int)(mp:Nat)(nw nw' mk:Value):(pM st fo ed cl mo mp nw mk).setIfInBounds 6 nw'=pM st fo ed cl mo mp nw' mk:=rfl
theorem akd(M:List Int)(v:Int):cY (M++[v])=cY M++[.int .i64 v]:=by unfold cY;simp
theorem ake(M:List Int)(k:Nat):(cY M).take k=cY (M.take k):=by unfold cY;rw[List.map_take]
theorem akb(M:List Int)(k:Nat)(v:Int):(cY M).set k (.int .i64 v)=cY (M.set k v):=by unfold cY;rw[Fk]
theorem fF.push{x:gY}(h:fF w eb g x p s M mv)(k0:aa af w W)(bt:w7.ownsRow 0 3 1 fC (M.length+1) (cY M++[.int .i64 v]))(dN:W.grownBy w7 mv.ownBlock)(cB:fC.ownBlock=mv.ownBlock\/fC.ownBlock=some W.heap.size):
 fF (w7.setCell ⟨eb,7,none⟩ fC) eb g x p s (M++[v]) fC/\aa (dy eb g x mv) w (w7.setCell ⟨eb,7,none⟩ fC):=by
 have k7:aa (fun i=>i=eb\/mv.ownBlock=some i) w w7:=(k0.mono (fun _ hx=>hx.elim)).eQ dN (fun j hj=>Or.inl (Or.inr hj));have kS:=k7.setCell (p:=⟨eb,7,none⟩) (Or.inl (Or.inl rfl)) fC;have GY:aa (fun i=>mv.ownBlock=some i) w w7:=(k0.mono (fun _ hx=>hx.elim)).eQ dN (fun j hj=>Or.inl hj);have az:¬mv.ownBlock=some eb:=fun hx=>(h.mY eb hx).1.1 rfl
 have hB:=(h.aj.kept GY az).setCell 7 fC;rw[Pe]at hB;have hle:=h.aj.lt;have aP:=k0.size
 have hl:∀i,fC.ownBlock=some i->mv.ownBlock=some i\/w.heap.size<=i:=fun i hi=>by
  rcases cB with e|e
  ·exact Or.inl (by rw[<-e];exact hi)
  ·rw[e]at hi;cases hi;exact Or.inr aP
 refine⟨h.l8 kS (fun i hi=>hi) hB ?_ h.qN hl,kS.mono (fun i hi=>by rcases hi with e|e;exact Or.inl e;exact Or.inr (Or.inr (Or.inr (Or.inr (Or.inr (Or.inr e))))))⟩;rw[akd,Aj];refine bY bt ((aa.refl (fun i=>i=eb) w7).setCell (p:=⟨eb,7,none⟩) (Or.inl rfl) fC) (fun i hi hx=>?_);rcases hl i hi with e|e
 ·rw[hx]at e;exact az e
 ·omega
theorem fF.put{gb:Nat}{x:gY}(h:fF w eb g x p s M (.slice (some ⟨gb,0,none⟩) n c)):fF (w.setCell ⟨gb,k,none⟩ (.int .i64 v)) eb g x p s (M.set k v) (.slice (some ⟨gb,0,none⟩) n c)/\aa (dy eb g x (.slice (some ⟨gb,0,none⟩) n c)) w (w.setCell ⟨gb,k,none⟩ (.int .i64 v)):=by
 have hn:n=M.length:=by
  obtain⟨ao,c',e⟩:=cK h.row;simp only[Bq]at e;exact e.2.1
 subst hn;have kx:(Value.slice (some ⟨gb,0,none⟩) M.length c).ownBlock=some gb:=rfl;have kS:aa (fun i=>i=gb) w (w.setCell ⟨gb,k,none⟩ (.int .i64 v)):=(aa.refl (fun i=>i=gb) w).setCell (p:=⟨gb,k,none⟩) (Or.inl rfl) _;have hr:=yU h.row k (.int .i64 v);rw[akb]at hr;refine⟨h.l8 kS (fun i hi=>Or.inr (by rw[hi];exact kx)) (h.aj.kept kS (fun hx=>(h.mY gb kx).1.1 hx.symm)) ?_ h.qN (fun i hi=>Or.inl hi),kS.mono (fun i hi=>by rw[hi];unfold dy;simp[kx])⟩;rw[Bm];exact hr
theorem fF.ahc{x:gY}(h:fF w eb g x p s M (.slice ao n c))(hk:k<=n):fF (w.setCell ⟨eb,7,none⟩ (.slice ao k c)) eb g x p s (M.take k) (.slice ao k c)/\aa (dy eb g x (.slice ao n c)) w (w.setCell ⟨eb,7,none⟩ (.slice ao k c)):=by
 have hn:n=M.length:=by
  obtain⟨jg,c',e⟩:=cK h.row;simp only[Bq]at e;exact e.2.1
 subst hn;have kx:(Value.slice ao k c).ownBlock=(Value.slice ao M.length c).ownBlock:=by cases ao<;>rfl
 have kS:aa (fun i=>i=eb) w (w.setCell ⟨eb,7,none⟩ (.slice ao k c)):=(aa.refl (fun i=>i=eb) w).setCell (p:=⟨eb,7,none⟩) (Or.inl rfl) _;have hr:=amb h.row hk;rw[ake]at hr;have hB:=h.aj.setCell 7 (.slice ao k c);rw[Pe]at hB;refine⟨h.l8 kS (fun i hi=>Or.inl hi) hB ?_ h.qN (fun i hi=>Or.inl (by rw[<-kx];exact hi)),kS.mono (fun i hi=>Or.inl hi)⟩;rw[Dq,Nat.min_eq_left hk];exact bY hr kS (fun i hi hx=>(h.mY i (by rw[<-kx];exact hi)).1.1 hx)
theorem fF.aim{x:gY}(h:fF w eb g x p s M mv)(hN:x.t.T p'=some s'):fF (w.setCell ⟨eb,6,none⟩ (.pointer (some ⟨p',0,none⟩))) eb g x p' s' M mv/\aa (dy eb g x mv) w (w.setCell ⟨eb,6,none⟩ (.pointer (some ⟨p',0,none⟩))):=by
 have kS:aa (fun i=>i=eb) w (w.setCell ⟨eb,6,none⟩ (.pointer (some ⟨p',0,none⟩))):=(aa.refl (fun i=>i=eb) w).setCell (p:=⟨eb,6,none⟩) (Or.inl rfl) _;have hB:=h.aj.setCell 6 (.pointer (some ⟨p',0,none⟩));rw[aaF]at hB;exact⟨h.l8 kS (fun i hi=>Or.inl hi) hB (bY h.row kS (fun i hi hx=>(h.mY i hi).1.1 hx)) hN (fun i hi=>Or.inl hi),kS.mono (fun i hi=>Or.inl hi)⟩
def gY.to0(x:gY)(t':TG):gY:={x with t:=t'}
theorem wG.to0{x:gY}(h:wG g x)(t':TG):wG g (x.to0 t'):=⟨h.ok,h.ms,h.st,h.mo,h.zJ,h.bJ,h.cls⟩
theorem fF.WE{x:gY}{D':DataW Unit}(h:fF w eb g x p s M mv)(k:aa K w w')(hK:∀i,K i->x.t.B i\/i=x.mp\/i=g.fb\/i=g.sb\/i=g.bb)(hle:x.t.le t')(hT:iE w' x.m t')(hM:lH w' x.mp x.mo t'.T D')(hI:jc w' g)(nM:∀i,t'.B i->x.t.B i\/w.heap.size<=i):
 fF w' eb g (x.to0 t') p s M mv/\aa (dy eb g x mv) w w':=by
 have f1:=h.gR (i:=eb) (Or.inl rfl);have f2:=h.gR (i:=x.mp) (Or.inr (Or.inr (Or.inl rfl)));have f3:=h.gR (i:=g.fb) (by unfold dy;simp);have f4:=h.gR (i:=g.sb) (by unfold dy;simp);have f5:=h.gR (i:=g.bb) (by unfold dy;simp)
 have nB:∀i,i<w.heap.size->¬x.t.B i->¬t'.B i:=fun i h1 h2 hx=>by
  rcases nM i hx with e|e
  ·exact h2 e
  ·omega
 refine⟨⟨h.aj.kept k (fun hx=>?_),bY h.row k (fun i hi hx=>?_),⟨D',hM⟩,hT,hle.T _ _ h.qN,hI,h.cls.kept k (fun az hx=>?_),⟨h.ap.em,h.ap.ef,h.ap.mf,h.ap.mm,nB _ f1 h.ap.eB,nB _ f2 h.ap.mB,nB _ f3 h.ap.fB.1,nB _ f4 h.ap.fB.2.1,nB _ f5 h.ap.fB.2.2⟩,⟨h.uY.1,fun i hi hx=>?_⟩,As h.lt k.size,fun i hi=>?_,fun az hx=>?_⟩,k.mono (fun i hi=>?_)⟩
 ·have a1:=h.ap.em;have a2:=h.ap.ef;rcases hK _ hx with e|e|e|e|e
  ·exact h.ap.eB e
  ·exact a1 e
  ·exact a2.1 e
  ·exact a2.2.1 e
  ·exact a2.2.2 e
 ·have a:=(h.mY i hi).1;rcases hK _ hx with e|e|e|e|e
  ·exact a.2.1 e
  ·exact a.2.2.1 e
  ·exact a.2.2.2.1 e
  ·exact a.2.2.2.2.1 e
  ·exact a.2.2.2.2.2 e
 ·refine h.cb az ?_;unfold dy;rcases hK _ hx with e|e|e|e|e<;>simp[e]
 ·rcases nM i hi with e|e
  ·exact h.uY.2 i e hx
  ·have:=uv h.fA hx;omega
 ·have a:=h.mY i hi;exact⟨⟨a.1.1,nB _ (dE h.row hi).2 a.1.2.1,a.1.2.2.1,a.1.2.2.2.1,a.1.2.2.2.2.1,a.1.2.2.2.2.2⟩,a.2⟩
 ·have hc:=(h.cls.at_ az).2;rcases hx with hx|hx|hx|hx|hx|hx|hx
  ·exact h.cb az (Or.inl hx)
  ·rcases nM _ hx with e|e
   ·exact h.cb az (Or.inr (Or.inl e))
   ·have e2:w.heap.size<=x.cb:=e;omega
  ·exact h.cb az (Or.inr (Or.inr (Or.inl hx)))
  ·exact h.cb az (by unfold dy;simp only[gY.to0]at hx;simp[hx])
  ·exact h.cb az (by unfold dy;simp only[gY.to0]at hx;simp[hx])
  ·exact h.cb az (by unfold dy;simp only[gY.to0]at hx;simp[hx])
  ·exact h.cb az (Or.inr (Or.inr (Or.inr (Or.inr (Or.inr (Or.inr hx))))))
 ·unfold dy;rcases hK _ hi with e|e|e|e|e<;>simp[e]
theorem TZ(ms:List MS)(ah bh:Int):∀(d:Nat) (u st:Int) (f:FS),oP n f->oP n (gw ms ah bh d u st f).1
 |0,_,_,_,h=>h
 |d+1,u,st,f,h=>by
  have IH:=fun(u st:Int) (f:FS) (h:oP n f)=>TZ ms ah bh d u st f h
  have hM:oP n ⟨f.seen.set u.toNat true,f.dI,f.next⟩:=h;unfold gw;split
  ·exact h
  ·split
   ·exact h
   ·split
    ·exact h
    ·split
     ·exact aeY hM
     ·split
      ·split
       ·exact IH _ _ _ hM
       ·exact hM
      ·split
       ·exact IH _ _ _ hM
       ·split
        ·exact IH _ _ _ hM
        ·exact IH _ _ _ (IH _ _ _ hM)
theorem aeO(ms:List MS)(ah bh:Int):∀(l:List bG) (f:FS),oP n f->oP n (iK ms ah bh l f).1
 | [],f,h=>h
 |t::ts,f,h=>by
  unfold iK;split
  ·exact TZ ms ah bh _ _ _ _ h
  ·exact aeO ms ah bh ts _ (TZ ms ah bh _ _ _ _ h)
theorem aeL(ms:List MS)(ah bh:Int)(l:List bG):(aZ ms ah bh l).1.length<=ms.length:=by
 have h0:oP ms.length (FS.new ms.length):=by
  unfold oP FS.new;simp only[A8,Bf];exact Bb Fj (by simp)
 have:=aeO ms ah bh l _ h0;unfold oP at this;unfold aZ;simp only;omega
structure La(w:World)(eb:Nat)(g:FG)(x:gY)(s:dt)(M:List Int)(mv:Value)(place bh:Int)(e:Ending)(w':World):Prop where
 ex:∃(t':TG) (p':Nat) (fC:Value),e=.returned (.tuple #[.int .i64 (((x.m.o bh s).2.2.map (gz (mA s M place))).getD 0),.bool (x.m.o bh s).2.2.isSome])/\fF w' eb g (x.to0 t') p' (x.m.o bh s).1 ((x.m.o bh s).2.1.map (gz (mA s M place))) fC/\cH (dy eb g x mv) (dy eb g (x.to0 t') fC) w w'
theorem La.drew{x:gY}(h:La w eb g x s M mv place bh e w'):La w eb g x s M mv place bh e w'.drew:=by
 obtain⟨t',p',fC,h1,h2,h3⟩:=h.ex;exact⟨t',p',fC,h1,h2.new (aa.refl _ _).drew,h3.new (aa.refl _ _).drew⟩
theorem dy.dA{x:gY}(k:aa (dy eb g x mv) w w')(hB:∀i,t'.B i->x.t.B i\/w.heap.size<=i)(hl:∀i,fC.ownBlock=some i->mv.ownBlock=some i\/w.heap.size<=i):cH (dy eb g x mv) (dy eb g (x.to0 t') fC) w w':=by
 refine⟨k,fun i hi=>?_⟩;rcases hi with hi|hi|hi|hi|hi|hi|hi
 ·exact Or.inl (Or.inl hi)
 ·rcases hB i hi with e|e
  ·exact Or.inl (Or.inr (Or.inl e))
  ·exact Or.inr e
 ·exact Or.inl (Or.inr (Or.inr (Or.inl hi)))
 ·exact Or.inl (by unfold dy;simp[hi])
 ·exact Or.inl (by unfold dy;simp[hi])
 ·exact Or.inl (by unfold dy;simp[hi])
 ·rcases hl i hi with e|e
  ·exact Or.inl (by unfold dy;simp[e])
  ·exact Or.inr e
theorem akY(s:dt)(M:List Int)(v:Int):(mA s M v).length=M.length+(if s.mt then 0 else 1):=by
 unfold mA
 cases s.mt<;>simp
def tm(aJ M:List Int)(k:Nat):List Int:=(aJ.take k).map (gz M)++M.drop k
theorem ali(aJ M:List Int):tm aJ M 0=M:=by simp[tm]
theorem alh(hk:k<aJ.length)(hM:aJ.length<=M.length):(tm aJ M k).set k (gz M aJ[k])=tm aJ M (k+1):=by
 unfold tm;rw[Em _ _ (by simp;omega),C1 hk,Ci,Bw,Ge,Bd];congr 1;have hl:((aJ.take k).map (gz M)).length=k:=by simp;omega
 rw[hl,Gd,Bj (show k<M.length by omega)];rfl
theorem acO{j:Nat}(hk:k<=j)(hkh:k<=aJ.length)(hj:j<M.length):(tm aJ M k)[j]? =some (gz M (j:Int)):=by
 unfold tm;have hl:((aJ.take k).map (gz M)).length=k:=by simp;omega
 rw[Cl (by omega),hl,Ds,show k+(j-k)=j by omega];unfold gz;rw[Ay,Af,Ae hj];rfl
theorem Wq(hk:k<=aJ.length)(hM:k<=M.length):(tm aJ M k).length=M.length:=by
 unfold tm;simp;omega
theorem alg:(tm aJ M aJ.length).take aJ.length=aJ.map (gz M):=by
 unfold tm;rw[Cn,List.take_append_of_le_length (by simp)];rw[By (by simp)]
def StO(w:World)(eb:Nat)(g:FG)(x:gY)(p:Nat)(s:dt)(M:List Int)(mv:Value)(bh:Int)(e:Ending)(w':World):Prop:=∃(q:Nat) (t':TG) (tq:Nat) (hv:Value),e=.returned (.pointer (some ⟨q,0,none⟩))/\fF w' eb g (x.to0 t') p s M mv/\aq w' q #[.pointer (some ⟨tq,0,none⟩),hv,.int .i64 ((x.m.o bh s).2.2.getD (-1))] 317/\t'.T tq=some (x.m.o bh s).1/\w'.ownsRow 0 3 1 hv (x.m.o bh s).2.1.length (cY (x.m.o bh s).2.1)/\(∀i,hv.ownBlock=some i->t'.B i)/\cH (dy eb g x mv) (dy eb g (x.to0 t') mv) w w'
theorem akn{x:gY}(hO:wG g x)(hb:0<=bh/\bh<=1114111)(h:fF w eb g x p s M mv)(cT:M.length=jo s.aV):
 Calls prog 233 #[.pointer (some ⟨eb,0,none⟩),.int .i64 place,.int .i32 bh] w (La w eb g x s M mv place bh):=by
 obtain⟨ao,mc,rfl⟩:=cK h.row;obtain⟨ii,AT,MN,GI,nG⟩:=Bp Tryz.VW;have AF:=h.nf.ok p s h.qN;have hMl:M.length<=5000:=by have:=AF.1.TU;have:=AF.1.bJ;have:=hO.ok.bJ;have e:=congrArg List.length hO.ms.1;omega
 obtain⟨cs0,as0,RL,e1,_,_⟩:=(h.nf.st p s h.qN).ex;obtain⟨mt,iA⟩:∃mt,s.mt=mt:=⟨_,rfl⟩
 have c2:w.cell? ⟨p,2,none⟩=some (.bool mt):=by rw[<-iA];exact e1.cell 2
 have c6:w.cell? ⟨eb,6,none⟩=some (.pointer (some ⟨p,0,none⟩)):=h.aj.cell 6;have c7:w.cell? ⟨eb,7,none⟩=some (.slice ao M.length mc):=h.aj.cell 7;have f7:w.frozen? ⟨eb,7,none⟩=false:=h.aj.frozen 7;have aiT:=h.aj.lt;have HH:=ab h;have HO:=ab hO;have uK:=ab iA;have qY:=ab cT;clear h hO e1 iA cT AF;go_in;go_upto_if 18 with fail
 go_cut [6] (fun v6 wx=>v6=.int .i64 0/\∃Wp,Hid (fF wx eb g x p s (mA s M place) Wp)/\Hid (cH (dy eb g x (.slice ao M.length mc)) (dy eb g x Wp) w wx))
 case first=>
  cases mt with
  |true=>
   have ax:Hid (fF w eb g x p s (mA s M place) (.slice ao M.length mc)):=by
    have e:mA s M place=M:=by unfold mA;rw[if_pos uK.o]
    show fF _ _ _ _ _ _ _ _
    rw[e];exact HH.o
   clear HH HO uK qY;go_wp2_with fail;go_meet
   case rel=>exact⟨rfl,_,ax,cH.refl _ _⟩
  |false=>
   have fW:=ab HH.o.row
   have ax:Hid (∀(W w7:World) (fC:Value),aa af w W->w7.ownsRow 0 3 1 fC (M.length+1) (cY M++[.int .i64 place])->W.grownBy w7 (Value.slice ao M.length mc).ownBlock->(fC.ownBlock=(Value.slice ao M.length mc).ownBlock\/fC.ownBlock=some W.heap.size)->(w7.cell? ⟨eb,7,none⟩=some (.slice ao M.length mc)/\w7.frozen? ⟨eb,7,none⟩=false)/\fF (w7.setCell ⟨eb,7,none⟩ fC) eb g x p s (mA s M place) fC/\cH (dy eb g x (.slice ao M.length mc)) (dy eb g x fC) w (w7.setCell ⟨eb,7,none⟩ fC)):=fun W w7 fC k0 ho nL hl=>by
    have e:mA s M place=M++[place]:=by unfold mA;rw[if_neg (by rw[uK.o];simp)]
    have:=HH.o.push k0 ho nL hl;have GY:aa (fun i=>(Value.slice ao M.length mc).ownBlock=some i) w w7:=(k0.mono (fun _ hx=>hx.elim)).eQ nL (fun j hj=>Or.inl hj);have hB:=HH.o.aj.kept GY (fun hx=>(HH.o.mY eb hx).1.1 rfl);rw[e];refine⟨⟨hB.cell 7,hB.frozen 7⟩,this.1,dy.dA (t':=x.t) this.2 (fun i hi=>Or.inl hi) (fun i hi=>?_)⟩;rcases hl with e|e
    ·exact Or.inl (by rw[<-e];exact hi)
    ·rw[e]at hi;cases hi;exact Or.inr k0.size
   clear HH HO uK qY;go_wp2_with (at_builtin;refine Ap _ rfl _ _ 22 rfl 0 3 ii _ 1 8 underlying22 AT MN GI nG rfl (by decide) _ _ _ rfl (fW.o.alloc _) ⟨w.heap.size,0,none⟩ 1 1 [.int .i64 place] rfl rfl ?c1 ?c2 ?c3 ?c4 ?c5 ?_)
   case c1=>exact Hc _ _
   case c2=>exact vI _
   case c3=>unfold maxLen;omega
   case c4=>omega
   case c5=>simp
   intro v' w7 bH b_ dS cB;obtain⟨jg,c',rfl⟩:=cK bH;obtain⟨⟨p1,p2⟩,p3,p4⟩:=ax.o _ _ _ ((aa.refl _ _).alloc _) bH b_ (by rw[fO];exact cB);have F1:=ab p3;have F2:=ab p4;clear bH b_ dS cB p3 p4 ax fW;go_wp2_with fail;go_meet
   case rel=>exact⟨rfl,_,F1,F2⟩
 case rest=>
  obtain⟨rfl,Wp,HM,Yz⟩:=hcut;clear c2 c6 c7 f7;obtain⟨M1,iG⟩:∃M1,M1=mA s M place:=⟨_,rfl⟩
  rw[<-iG]at HM;obtain⟨a1,c1,mx⟩:=cK HM.o.row;subst mx;have mV:M1.length=jo s.aV+(if s.mt then 0 else 1):=by rw[iG,akY,qY.o]
  have Qf:M1.length<=6000:=by have:=qY.o;split at mV<;>omega
  have SD:=ab mV;have si:=ab iG
  have F:Hid (Calls prog 234 #[.pointer (some ⟨eb,0,none⟩),.int .i32 bh] wc (StO wc eb g x p s M1 (.slice a1 M1.length c1) bh)):=by
   obtain⟨D,hD⟩:=HM.o.map;have h:=HM.o;have o:=HO.o;refine(aow o.ok o.ms o.st hb h.aj mV o.mo h.lt hD h.nf h.qN h.fA h.ap h.cls o.zJ o.bJ h.uY.2).mono ?_;rintro e w2 ⟨⟨q,t',D',rfl,h1,h2,h3,h4,h5⟩,h6,h7⟩;obtain⟨i1,i2⟩:=h.WE h7 (fun i hi=>hi) h1 h2 h3 h6 h5;obtain⟨tq,hv,b1,b2,b3,b4⟩:=h4.at o.cls hb rfl;exact⟨q,t',tq,hv,rfl,i1,b1,b2,b3,b4,dy.dA i2 h5 (fun i hi=>Or.inl hi)⟩
  obtain⟨O,Uz⟩:∃O,O=x.m.o bh s:=⟨_,rfl⟩
  have Ih:=ab Uz
  have uQ:Hid (O.2.1.Pairwise (· < ·)/\(∀j∈O.2.1,0<=j/\j<(M1.length:Int))/\∀j,O.2.2=some j->0<=j/\j<(M1.length:Int)):=by
   have dD:=(HM.o.nf.ok p s HM.o.qN).1;have e:=HO.o.ms.1;have hf:(aZ x.m.ms s.ah bh (dx x.m.st s)).1.length<=x.m.ms.length:=aeL _ _ _ _;have hx:∀t∈ (aZ x.m.ms s.ah bh (dx x.m.st s)).1,0<=t.1/\t.1<x.m.ms.length:=(RJ (by rw[e];exact HO.o.ok.fL) _ _ _);obtain⟨_,_,r3,r4,r5⟩:=WC (j7:=jL x.m.ms bh) (by rw[e];exact HO.o.ok.fL) dD hx hf
   have hn:((jo s.aV:Int)+(if s.mt then 0 else 1))=(M1.length:Int):=by rw[mV];cases s.mt<;>simp
   rw[Uz];rw[hn]at r4 r5;exact⟨r3,r4,r5⟩
  clear Uz iG mV HM;go_wp2_with fail;refine(F.o).mono ?_;rintro e w2 ⟨q,t',tq,hv,rfl,i1,b1,b2,b3,b4,gn⟩;rw[<-Ih.o]at b1 b2 b3;have uJ:=ab i1;have ix:=ab b1;have jD:=ab b2;have uG:=ab b3;have jP:=ab b4;have nW:=ab (Yz.o.trans gn);obtain⟨ha,hc,QG⟩:=cK b3;subst QG;have q1:w2.cell? ⟨q,1,none⟩=some (.slice ha O.2.1.length hc):=b1.cell 1;have q2:w2.cell? ⟨q,2,none⟩=some (.int .i64 (O.2.2.getD (-1))):=b1.cell 2;have e7:w2.cell? ⟨eb,7,none⟩=some (.slice a1 M1.length c1):=i1.aj.cell 7;clear F i1 b1 b2 b3 b4 gn Yz;obtain⟨dv,UY⟩:∃dv,O.2.2.getD (-1)=dv:=⟨_,rfl⟩
  rw[UY]at q2;have Kj:=ab UY;clear UY;go_upto_if 36 with fail
  go_cut [6,7] (fun v6 v7 wx=>v6=.int .i64 ((O.2.2.map (gz M1)).getD 0)/\v7=.bool O.2.2.isSome/\Hid (aa af w2 wx))
  case first=>
   obtain⟨o2,EZ⟩:∃o2,O.2.2=o2:=⟨_,rfl⟩
   cases o2 with
   |none=>
    have ed:dv= -1:=by rw[<-Kj.o,EZ];rfl
    subst ed;clear uJ ix jD uG jP nW Kj uQ HO HH qY uK Ih SD si;have Ke:=ab EZ;clear EZ;go_wp2_with fail;go_meet
    case rel=>exact⟨by rw[Ke.o];rfl,by rw[Ke.o];rfl,aa.refl _ _⟩
   |some d=>
    have ed:dv=d:=by rw[<-Kj.o,EZ];rfl
    subst ed;obtain⟨FY,sP⟩:=uQ.o.2.2 dv EZ;obtain⟨k,rfl⟩:=Au FY;obtain⟨gb,cc,e1,_,wX,_,Mf,_⟩:=mG uJ.o.row (by omega);obtain⟨eA,eC⟩:a1=some ⟨gb,0,none⟩/\c1=cc:=by simpa using e1
    subst eA eC;obtain⟨mk,qC⟩:∃mk,mk=gz M1 (k:Int):=⟨_,rfl⟩
    have ck:w2.cell? ⟨gb,k,none⟩=some (.int .i64 mk):=by
     rw[Mf k (by omega),qC];have oA:k<M1.length:=(by omega);unfold cY gz;simp[oA]
    have HMK:=ab qC;have rH:(k:Int)<(M1.length:Int):=sP;have aU:((k:Int)== -1)=false:=(by simp<;>omega);have aN:((k:Int) != -1)=true:=(by simp<;>omega);clear uJ ix jD uG jP nW Kj uQ HO HH qY uK Ih SD si e1 Mf qC;have Ke:=ab EZ;clear EZ;go_wp2_with fail;go_quiet (fail);go_wp2_with fail;go_meet
    case rel=>exact⟨by rw[Ke.o,HMK.o];rfl,by rw[Ke.o];rfl,(aa.refl _ _).drewN _⟩
  case rest=>
   obtain⟨rfl,rfl,iN⟩:=hcut;obtain⟨wd,pT⟩:∃wd,wd=wc:=⟨_,rfl⟩
   rw[<-pT]at iN⊢;clear pT q1 q2 e7;have xS:=ab (uJ.o.new iN.o);have wE:=ab (bY uG.o iN.o (fun _ _ hx=>hx));have H_:=ab (ix.o.kept iN.o (fun hx=>hx));have q0:wd.cell? ⟨q,0,none⟩=some (.pointer (some ⟨tq,0,none⟩)):=H_.o.cell 0;have q1:wd.cell? ⟨q,1,none⟩=some (.slice ha O.2.1.length hc):=H_.o.cell 1;have DG:=ab (nW.o.new iN.o);have YN:=ab xS.o.aj;have SJ:Hid (¬(Value.slice a1 M1.length c1).ownBlock=some q):=(fun hx=>Lk H_.o xS.o.row (by decide) hx);obtain⟨aJ,qB⟩:∃aJ,aJ=O.2.1:=⟨_,rfl⟩
   rw[<-qB]at q1 wE uQ jP;have YA:=ab qB;clear uJ uG ix nW qB
   have P_:aJ.length<=M1.length:=by
    by_cases e:aJ=[]
    ·rw[e];exact Ao _
    ·have h1:=aed uQ.o.1 (fun y hy=>(uQ.o.2.1 y hy).1) (aJ.length-1) (by have:=Br.2 e;omega);have h2:=(uQ.o.2.1 _ (A5 (show aJ.length-1<aJ.length by have:=Br.2 e;omega))).2;have:=Br.2 e;omega
   go_wp2_with fail
   go_loopg [52] aJ.length (fun kk v52 wr=>∃k:Nat,v52=.int .i64 (k:Int)/\k<=aJ.length/\kk=aJ.length-k/\Hid (fF wr eb g (x.to0 t') p s (tm aJ M1 k) (.slice a1 M1.length c1))/\Hid (aa (fun i=>(Value.slice a1 M1.length c1).ownBlock=some i) wd wr))
   case atStart=>exact⟨0,rfl,Ao _,rfl,by rw[ali];exact xS,aa.refl _ _⟩
   case round=>
    obtain⟨k,rfl,hk,eZ,wB,DH⟩:=hrel;clear xS;by_cases aw:k<aJ.length
    ·have hit:(k:Int)<(aJ.length:Int):=(by omega);obtain⟨vy,jx,e1,_,wX,_,Mf,_⟩:=mG wE.o (by omega);obtain⟨eA,eC⟩:ha=some ⟨vy,0,none⟩/\hc=jx:=by simpa using e1
     subst eA eC;obtain⟨gb,mcc,e2,_,ap6,_,PZ,abA⟩:=mG wB.o.row (by rw[Wq hk (by omega)];omega);rw[Wq hk (by omega)]at e2 PZ;obtain⟨eA,eC⟩:a1=some ⟨gb,0,none⟩/\c1=mcc:=by simpa using e2
     subst eA eC;obtain⟨U9,rG⟩:=uQ.o.2.1 _ (A5 aw);have hjk:=aed uQ.o.1 (fun y hy=>(uQ.o.2.1 y hy).1) k aw;obtain⟨j,hj⟩:=Au U9;have hjM:j<M1.length:=(by omega);have aja:k<=j:=(by omega);have az:vy≠gb:=fun e=>(wB.o.mY gb rfl).1.2.1 (by rw[<-e];exact jP.o vy rfl)
     have ch:wr.cell? ⟨vy,k,none⟩=some (.int .i64 (j:Int)):=by
      refine(DH.o.cell (p:=⟨vy,k,none⟩) wX (fun hx=>az (by simpa[Value.ownBlock]using hx.symm))).trans ?_;rw[Mf k aw];unfold cY;simp[aw,hj]
     obtain⟨mk,qC⟩:∃mk,mk=gz M1 (j:Int):=⟨_,rfl⟩
     have cj:wr.cell? ⟨gb,j,none⟩=some (.int .i64 mk):=by
      rw[PZ j (by omega),qC];unfold cY;rw[Bv,acO aja hk hjM];rfl
     have ckx:∃u,wr.cell? ⟨gb,k,none⟩=some u:=by
      rw[PZ k (by omega)];unfold cY;rw[Bv,acO (Ab k) hk (by omega)];exact⟨_,rfl⟩
     obtain⟨uk,ck⟩:=ckx;have fk:wr.frozen? ⟨gb,k,none⟩=false:=abA k;have e7:wr.cell? ⟨eb,7,none⟩=some (.slice (some ⟨gb,0,none⟩) M1.length c1):=wB.o.aj.cell 7;have vC:(j:Int)<(M1.length:Int):=(by omega);have rH:(k:Int)<(M1.length:Int):=by omega
     have NX:Hid (fF (wr.setCell ⟨gb,k,none⟩ (.int .i64 mk)) eb g (x.to0 t') p s (tm aJ M1 (k+1)) (.slice (some ⟨gb,0,none⟩) M1.length c1)/\aa (fun i=>(Value.slice (some ⟨gb,0,none⟩) M1.length c1).ownBlock=some i) wd (wr.setCell ⟨gb,k,none⟩ (.int .i64 mk))):=by
      have:=(wB.o.put (k:=k) (v:=mk)).1;rw[qC,<-hj,alh aw P_]at this;rw[qC,<-hj];exact⟨this,DH.o.setCell (p:=⟨gb,k,none⟩) (Or.inl rfl) _⟩
     clear wB DH Mf PZ abA e1 e2 qC hj;go_wp2_with fail;go_region;go_wp2_with fail;go_roundg (aJ.length-(k+1))
     case measure=>omega
     case rel=>exact⟨k+1,by simp,by omega,rfl,NX.o.1.new ((aa.refl _ _).drew),NX.o.2.drew⟩
    ·have hke:k=aJ.length:=(by omega);subst hke;have hit:¬((aJ.length:Int)<(aJ.length:Int)):=(by omega);have aiz:=Wq (Ab aJ.length) P_;have HC:=wB.o.ahc (k:=aJ.length) P_;rw[alg]at HC;have HT:(x.to0 t').t.T tq=some O.1:=jD.o;have HN:=HC.1.aim HT;have e7:wr.cell? ⟨eb,7,none⟩=some (.slice a1 M1.length c1):=wB.o.aj.cell 7;have f7:wr.frozen? ⟨eb,7,none⟩=false:=wB.o.aj.frozen 7;have e6:(wr.setCell ⟨eb,7,none⟩ (.slice a1 aJ.length c1)).cell? ⟨eb,6,none⟩=some (.pointer (some ⟨p,0,none⟩)):=HC.1.aj.cell 6;have f6:(wr.setCell ⟨eb,7,none⟩ (.slice a1 aJ.length c1)).frozen? ⟨eb,6,none⟩=false:=HC.1.aj.frozen 6;have qF:q≠eb:=Lj H_.o YN.o (by decide);have Qy:q<wd.heap.size:=H_.o.lt;have q1':wr.cell? ⟨q,1,none⟩=some (.slice ha aJ.length hc):=(DH.o.cell (p:=⟨q,1,none⟩) Qy SJ.o).trans q1
     have q0':(wr.setCell ⟨eb,7,none⟩ (.slice a1 aJ.length c1)).cell? ⟨q,0,none⟩=some (.pointer (some ⟨tq,0,none⟩)):=by
      rw[World.cell?_setCell_far _ _ _ _ (by exact fun e=>qF e.symm)];exact(DH.o.cell (p:=⟨q,0,none⟩) Qy SJ.o).trans q0
     have hMI:(aJ.length:Int)<=(M1.length:Int):=by omega
     have yq:M1.length<=c1/\(a1=none->M1.length=0/\c1=0):=by
      have hr:=wB.o.row;rcases hr.2 with⟨h1,h2⟩|⟨_,cap,_,h1,_,_,h4,_⟩
      ·simp only[Bq]at h1;exact⟨by omega,fun _=>⟨h1.2.1,h1.2.2⟩⟩
      ·simp only[Bq]at h1;refine⟨by omega,fun e=>?_⟩;rw[e]at h1
       cases h1.1
     have KF:=(DH.o.mono (fun i hi=>(by unfold dy;simp[hi]:dy eb g (x.to0 t') (.slice a1 M1.length c1) i))).trans (HC.2.trans (HN.2.mono (fun i hi=>by
      rcases hi with hi|hi|hi|hi|hi|hi|hi
      ·exact Or.inl hi
      ·exact Or.inr (Or.inl hi)
      ·exact Or.inr (Or.inr (Or.inl hi))
      ·exact Or.inr (Or.inr (Or.inr (Or.inl hi)))
      ·exact Or.inr (Or.inr (Or.inr (Or.inr (Or.inl hi))))
      ·exact Or.inr (Or.inr (Or.inr (Or.inr (Or.inr (Or.inl hi)))))
      ·exact Or.inr (Or.inr (Or.inr (Or.inr (Or.inr (Or.inr (by cases a1<;>exact hi)))))))))
     have ax:Hid (La w eb g x s M (.slice ao M.length mc) place bh (.returned (.tuple #[.int .i64 ((O.2.2.map (gz M1)).getD 0),.bool O.2.2.isSome])) ((wr.setCell ⟨eb,7,none⟩ (.slice a1 aJ.length c1)).setCell ⟨eb,6,none⟩ (.pointer (some ⟨tq,0,none⟩)))):=by
      refine⟨t',tq,.slice a1 aJ.length c1,by rw[Ih.o,si.o],by rw[<-Ih.o,<-si.o,<-YA.o];exact HN.1,DG.o.trans ⟨KF,fun i hi=>Or.inl ?_⟩⟩;rcases hi with hi|hi|hi|hi|hi|hi|hi
      ·exact Or.inl hi
      ·exact Or.inr (Or.inl hi)
      ·exact Or.inr (Or.inr (Or.inl hi))
      ·exact Or.inr (Or.inr (Or.inr (Or.inl hi)))
      ·exact Or.inr (Or.inr (Or.inr (Or.inr (Or.inl hi))))
      ·exact Or.inr (Or.inr (Or.inr (Or.inr (Or.inr (Or.inl hi)))))
      ·exact Or.inr (Or.inr (Or.inr (Or.inr (Or.inr (Or.inr (by cases a1<;>exact hi))))))
     clear HC HN wB DH KF HT aiz H_ YN uQ wE jD jP DG SJ YA Ih si HO HH uK qY SD iN Kj q0 q1
     cases a1 with
     |none=>
      obtain⟨h0,nH⟩:=yq.2 rfl;have hh0:aJ.length=0:=(by omega);rw[hh0]at*;rw[h0]at*;subst nH;go_wp2_with fail;go_region;go_wp2_with fail;go_ret2;exact ax.o.drew
     |some ad=>
      have hcI:¬((c1:Int)<(aJ.length:Int)):=(by omega);go_wp2_with fail;go_region;go_wp2_with fail;go_ret2;exact ax.o.drew
structure KU(w:World)(eb:Nat)(g:FG)(x:gY)(nw:Value)(M:List Int)(mv:Value):Prop where
 aj:aq w eb (pM g.st (.pointer (some ⟨g.fb,0,none⟩)) (o_ g.ms) (.slice x.ca x.m.cl.length x.cc) x.mo x.mp nw mv) 159
 row:w.ownsRow 0 3 1 mv M.length (cY M)
 map:∃D,lH w x.mp x.mo x.t.T D
 nf:iE w x.m x.t
 fA:jc w g
 cls:zt w x.ca x.cb x.m.cl
 ap:J6 g x.t eb x.mp
 uY:¬g.cM eb/\∀i,x.t.B i->¬g.cM i
 lt:x.mp<w.heap.size
 mY:∀i,mv.ownBlock=some i->(i≠eb/\¬x.t.B i/\i≠x.mp/\i≠g.fb/\i≠g.sb/\i≠g.bb)/\¬g.cM i
 cb:x.m.cl≠ []->¬dy eb g x mv x.cb
theorem fF.pre{x:gY}(h:fF w eb g x p s M mv):KU w eb g x (.pointer (some ⟨p,0,none⟩)) M mv:=⟨h.aj,h.row,h.map,h.nf,h.fA,h.cls,h.ap,h.uY,h.lt,h.mY,h.cb⟩
def xE(ms:List MS)(c:Int):dt:=⟨[],jL ms c,false⟩
theorem aeK(ms:List MS)(c:Int):(xE ms c).Ok ms:=⟨fun t ht=>(by cases ht),fun t ht=>(by cases ht),List.Pairwise.nil,Ao _,Ab _⟩
theorem KU.dI{w2:World}{x:gY}{s0:dt}(hO:wG g x)(h:KU w eb g x nw M (.slice ao n c))(h0:s0.aV=[]/\s0.Ok g.ms/\(s0.ah= -1\/s0.ah=119\/s0.ah=32))(P:x9 (w.setCell ⟨eb,7,none⟩ (.slice ao 0 c)) x.mp x.mo x.t.T s0 (.slice none s0.aV.length 0) e w2):
 ∃(p':Nat) (t':TG),e=.returned (.pointer (some ⟨p',0,none⟩))/\((∃u,w2.cell? ⟨eb,6,none⟩=some u)/\w2.frozen? ⟨eb,6,none⟩=false)/\fF (w2.setCell ⟨eb,6,none⟩ (.pointer (some ⟨p',0,none⟩))) eb g (x.to0 t') p' s0 [] (.slice ao 0 c)/\cH (dy eb g x (.slice ao n c)) (dy eb g (x.to0 t') (.slice ao 0 c)) w (w2.setCell ⟨eb,6,none⟩ (.pointer (some ⟨p',0,none⟩))):=by
 obtain⟨⟨p',T',D',rfl,UB,tS,Vv⟩,hk⟩:=P
 have hn:n=M.length:=by
  obtain⟨jg,c',e⟩:=cK h.row;simp only[Bq]at e;exact e.2.1
 subst hn;have kx:(Value.slice ao 0 c).ownBlock=(Value.slice ao M.length c).ownBlock:=by cases ao<;>rfl
 have rN:(w.setCell ⟨eb,7,none⟩ (.slice ao 0 c)).heap.size=w.heap.size:=by simp
 have k1:aa (fun i=>i=eb) w (w.setCell ⟨eb,7,none⟩ (.slice ao 0 c)):=(aa.refl (fun i=>i=eb) w).setCell (p:=⟨eb,7,none⟩) (Or.inl rfl) _;have B1:=h.aj.setCell 7 (.slice ao 0 c);rw[Pe]at B1;have B2:=B1.kept hk h.ap.em;have B3:=B2.setCell 6 (.pointer (some ⟨p',0,none⟩));rw[aaF]at B3;have k2:aa (fun i=>i=eb\/i=x.mp) w w2:=(k1.mono (fun i hi=>Or.inl hi)).trans (hk.mono (fun i hi=>Or.inr hi));have k3:aa (fun i=>i=eb\/i=x.mp) w (w2.setCell ⟨eb,6,none⟩ (.pointer (some ⟨p',0,none⟩))):=k2.setCell (p:=⟨eb,6,none⟩) (Or.inl (Or.inl rfl)) _;have k6:aa (fun i=>i=eb) w2 (w2.setCell ⟨eb,6,none⟩ (.pointer (some ⟨p',0,none⟩))):=(aa.refl (fun i=>i=eb) w2).setCell (p:=⟨eb,6,none⟩) (Or.inl rfl) _;have hr0:w.ownsRow 0 3 1 (.slice ao 0 c) ([]:List Int).length (cY []):=WJ h.row
 have hr:(w2.setCell ⟨eb,6,none⟩ (.pointer (some ⟨p',0,none⟩))).ownsRow 0 3 1 (.slice ao 0 c) ([]:List Int).length (cY []):=bY hr0 k3 (fun i hi hx=>by
  have:=(h.mY i (by rw[<-kx];exact hi)).1;rcases hx with hx|hx
  ·exact this.1 hx
  ·exact this.2.2.1 hx)
 have hKB:∀i,(i=eb\/i=x.mp)->¬x.t.B i:=fun i hx=>by
  rcases hx with hx|hx
  ·rw[hx];exact h.ap.eB
  ·rw[hx];exact h.ap.mB
 obtain⟨_,_,_,_,_,x1,⟨x2,_⟩,⟨x3,_⟩⟩:=h.fA.ex;have f1:=x1.lt;have f2:=x2.lt;have f3:=x3.lt;have f4:=h.aj.lt;have f5:=h.lt
 have hI:=h.fA.kept k3 (fun i hx=>by
  have a1:=h.ap.ef;have a2:=h.ap.mf;rcases hx with hx|hx
  ·rw[hx];exact⟨by omega,h.uY.1⟩
  ·rw[hx];exact⟨by omega,h.ap.mm⟩)
 have hC:=h.cls.kept k3 (fun az hx=>by
  rcases hx with hx|hx
  ·exact h.cb az (Or.inl hx)
  ·exact h.cb az (Or.inr (Or.inr (Or.inl hx))))
 have KEY:∃t',x.t.le t'/\iE (w2.setCell ⟨eb,6,none⟩ (.pointer (some ⟨p',0,none⟩))) x.m t'/\t'.T=T'/\∀i,t'.B i->x.t.B i\/w.heap.size<=i:=by
  rcases Vv with rfl|⟨hp,hTT,hB⟩
  ·exact⟨x.t,TG.le.refl _,h.nf.kept k3 hKB,rfl,fun i hi=>Or.inl hi⟩
  ·rw[rN]at hp;have dS:(Value.slice none s0.aV.length 0)=.slice none 0 0:=by rw[h0.1];rfl
   have iT:=hB.kept k6 (by omega);refine⟨x.t.add p' s0 (.slice none s0.aV.length 0),TG.Tl (h.nf.fresh (by omega)),h.nf.add (base:=0) k3 hKB (by omega) iT ?_ ⟨by rw[hO.ms.1];exact h0.2.1,h0.2.2⟩,hTT.symm,fun i hi=>?_⟩
   ·rw[h0.1];exact A6 _ _ _ _
   ·rcases hi with hi|hi|hi
    ·exact Or.inl hi
    ·exact Or.inr (by omega)
    ·rw[dS]at hi;cases hi
 obtain⟨t',hle,qy,hTe,nM⟩:=KEY
 have nB:∀i,i<w.heap.size->¬x.t.B i->¬t'.B i:=fun i h1 h2 hx=>by
  rcases nM i hx with e|e
  ·exact h2 e
  ·omega
 refine⟨p',t',rfl,⟨⟨_,B2.cell 6⟩,B2.frozen 6⟩,⟨B3,hr,⟨D',by rw[show(x.to0 t').t.T=T' from hTe];exact tS.kept k6 (fun hx=>h.ap.em hx.symm)⟩,qy,by rw[show(x.to0 t').t.T=T' from hTe];exact UB,hI,hC,⟨h.ap.em,h.ap.ef,h.ap.mf,h.ap.mm,nB _ f4 h.ap.eB,nB _ f5 h.ap.mB,nB _ f1 h.ap.fB.1,nB _ f2 h.ap.fB.2.1,nB _ f3 h.ap.fB.2.2⟩,⟨h.uY.1,fun i hi hx=>?_⟩,As h.lt k3.size,fun i hi=>?_,fun az hx=>?_⟩,dy.dA (k3.mono (fun i hi=>?_)) nM (fun i hi=>Or.inl (by rw[<-kx];exact hi))⟩
 ·rcases nM i hi with e|e
  ·exact h.uY.2 i e hx
  ·have:=uv h.fA hx;omega
 ·have hi':(Value.slice ao M.length c).ownBlock=some i:=by rw[<-kx];exact hi
  have a:=h.mY i hi';exact⟨⟨a.1.1,nB _ (dE h.row hi').2 a.1.2.1,a.1.2.2.1,a.1.2.2.2.1,a.1.2.2.2.2.1,a.1.2.2.2.2.2⟩,a.2⟩
 ·have hc:=(h.cls.at_ az).2;rcases hx with hx|hx|hx|hx|hx|hx|hx
  ·exact h.cb az (Or.inl hx)
  ·rcases nM _ hx with e|e
   ·exact h.cb az (Or.inr (Or.inl e))
   ·have e2:w.heap.size<=x.cb:=e;omega
  ·exact h.cb az (Or.inr (Or.inr (Or.inl hx)))
  ·exact h.cb az (Or.inr (Or.inr (Or.inr (Or.inl hx))))
  ·exact h.cb az (Or.inr (Or.inr (Or.inr (Or.inr (Or.inl hx)))))
  ·exact h.cb az (Or.inr (Or.inr (Or.inr (Or.inr (Or.inr (Or.inl hx))))))
  ·exact h.cb az (Or.inr (Or.inr (Or.inr (Or.inr (Or.inr (Or.inr (by rw[<-kx];exact hx)))))))
 ·rcases hi with hi|hi
  ·exact Or.inl hi
  ·exact Or.inr (Or.inr (Or.inl hi))
def Sd(w:World)(eb:Nat)(g:FG)(x:gY)(mv:Value)(c:Int)(e:Ending)(w':World):Prop:=e=.returned (.tuple #[])/\∃(p':Nat) (t':TG) (fC:Value),fF w' eb g (x.to0 t') p' (xE g.ms c) [] fC/\cH (dy eb g x mv) (dy eb g (x.to0 t') fC) w w'
theorem acm{x:gY}{c:Int}(hO:wG g x)(h:KU w eb g x nw M mv):
 Calls prog 72 #[.pointer (some ⟨eb,0,none⟩),.int .i32 c] w (Sd w eb g x mv c):=by
 obtain⟨ao,mc,rfl⟩:=cK h.row;obtain⟨D,hD⟩:=h.map;have k1:aa (fun i=>i=eb) w (w.setCell ⟨eb,7,none⟩ (.slice ao 0 mc)):=(aa.refl (fun i=>i=eb) w).setCell (p:=⟨eb,7,none⟩) (Or.inl rfl) _;have B1:=h.aj.setCell 7 (.slice ao 0 mc);rw[Pe]at B1;have rN:(w.setCell ⟨eb,7,none⟩ (.slice ao 0 mc)).heap.size=w.heap.size:=by simp
 have F1:=ab (acs (c:=c) B1)
 have F2:Hid (Calls prog 101 #[.pointer (some ⟨eb,0,none⟩),.agg #[.slice none 0 0,.int .i32 (jL g.ms c),.bool false,.slice none 0 0]] (w.setCell ⟨eb,7,none⟩ (.slice ao 0 mc)) (x9 (w.setCell ⟨eb,7,none⟩ (.slice ao 0 mc)) x.mp x.mo x.t.T (xE g.ms c) (.slice none (xE g.ms c).aV.length 0))):=
  acn (ms:=g.ms) (tb:=0) (s:=xE g.ms c) B1 (hD.kept k1 (fun hx=>h.ap.em hx.symm)) (fun hx=>h.ap.em hx.symm) (by rw[rN];exact h.lt) hO.mo (by rw[<-hO.ms.1];exact h.nf.ok) (by rw[rN];exact h.nf.fresh (Ab _)) hO.ok.bJ (aeK _ _) (Xp _ _) ⟨fun az=>absurd rfl az,fun k hk=>(by cases hk)⟩
 have c7:w.cell? ⟨eb,7,none⟩=some (.slice ao M.length mc):=h.aj.cell 7;have f7:w.frozen? ⟨eb,7,none⟩=false:=h.aj.frozen 7
 have yq:M.length<=mc/\(ao=none->M.length=0/\mc=0):=by
  rcases h.row.2 with⟨h1,h2⟩|⟨_,cap,_,h1,_,_,h4,_⟩
  ·simp only[Bq]at h1;exact⟨by omega,fun _=>⟨h1.2.1,h1.2.2⟩⟩
  ·simp only[Bq]at h1;refine⟨by omega,fun e=>?_⟩;rw[e]at h1
   cases h1.1
 have CV:Hid (∀e w2,x9 (w.setCell ⟨eb,7,none⟩ (.slice ao 0 mc)) x.mp x.mo x.t.T (xE g.ms c) (.slice none (xE g.ms c).aV.length 0) e w2->∃p' u,e=.returned (.pointer (some ⟨p',0,none⟩))/\(w2.cell? ⟨eb,6,none⟩=some u/\w2.frozen? ⟨eb,6,none⟩=false)/\Sd w eb g x (.slice ao M.length mc) c (.returned (.tuple #[])) (w2.setCell ⟨eb,6,none⟩ (.pointer (some ⟨p',0,none⟩)))):=fun e w2 P=>by
  obtain⟨p',t',rfl,⟨⟨u,hu⟩,hf⟩,h3,h4⟩:=h.dI hO ⟨rfl,aeK _ _,Xp _ _⟩ P;exact⟨p',u,rfl,⟨hu,hf⟩,rfl,p',t',_,h3,h4⟩
 clear h hO B1 k1 hD rN
 cases ao with
 |none=>
  obtain⟨h0,nH⟩:=yq.2 rfl;rw[h0]at c7;subst nH;clear yq;go_enter func72,ntmps72;go_wp2_with fail;refine(F1.o).mono ?_;rintro e w1 ⟨rfl,rfl⟩;go_wp2_with fail;refine(F2.o).mono ?_;intro e w2 P;obtain⟨p',u,rfl,⟨c6,f6⟩,FF⟩:=CV.o e w2 P;have DE:=ab FF;clear P FF F1 F2 CV c7 f7;go_wp2_with fail;go_end0;exact DE.o
 |some ad=>
  have hcI:¬((mc:Int)<0):=by omega
  clear yq;go_enter func72,ntmps72;go_wp2_with fail;refine(F1.o).mono ?_;rintro e w1 ⟨rfl,rfl⟩;go_wp2_with fail;refine(F2.o).mono ?_;intro e w2 P;obtain⟨p',u,rfl,⟨c6,f6⟩,FF⟩:=CV.o e w2 P;have DE:=ab FF;clear P FF F1 F2 CV c7 f7;go_wp2_with fail;go_end0;exact DE.o
theorem akk{x:gY}(h:fF w eb g x p s M mv):Calls prog 231 #[.pointer (some ⟨eb,0,none⟩)] w fun e w'=>e=.returned (.tuple #[.int .i64 (M.headD 0),.bool (!M.isEmpty)])/\w'=w:=akl h.aj h.row
def sq(B:Nat)(ao:Option Addr)(n c:Nat)(u x:Int)(w':World):Prop:=w'.cell? ⟨B,0,none⟩=some (.slice ao n c)/\w'.cell? ⟨B,1,none⟩=some (.int .i64 u)/\w'.cell? ⟨B,2,none⟩=some (.int .i64 x)
theorem sq.of{B:Nat}{u x:Int}{t:TypeId}(h:aq W B #[.slice ao n c,.int .i64 u,.int .i64 x] t):sq B ao n c u x W:=⟨h.cell 0,h.cell 1,h.cell 2⟩
theorem Tryz.aj2:(prog.info? 4).map (fun i=>(i.zero,i.size,i.bytes))=some (some (.bool false),1,1):=by kernel_rfl
