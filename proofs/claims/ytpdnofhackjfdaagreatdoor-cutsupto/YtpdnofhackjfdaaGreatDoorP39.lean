/- Package marks -/
import Derived.Test.YtpdnofhackjfdaaGreatDoorP38
set_option linter.all false
set_option maxRecDepth 100000
set_option maxHeartbeats 8000000
namespace Go.Proofs.YtpdnofhackjfdaaGreatDoor
open Go.Proofs.Tryz
open Go.RowKit Go.Maps
variable {e:Ending} {g:FG} {bh place v:Int} {M aJ:List Int} {s s':dq} {c eb k n p p':Nat} {K:Nat->Prop} {ao:Option Addr} {t':TG} {mv fy nw:Value} {W w w' w7:World}
theorem alN{base e:Nat}{xs:List Value}(h:w.ownsRow base e 1 (.slice ao n c) n xs)(hk:k<=n):w.ownsRow base e 1 (.slice ao k c) k (xs.take k):=by
 have hx:=h.1;refine⟨by rw[D4];omega,?_⟩;rcases h.2 with⟨h2,h3⟩|⟨g,cap,aL,h3,h4,h5,h6,h7,h8,h9⟩
 ·simp only[Bi]at h2;obtain⟨rfl,rfl,rfl⟩:=h2;obtain rfl:k=0:=by omega
  exact Or.inl ⟨rfl,rfl⟩
 ·simp only[Bi]at h3;obtain⟨rfl,_,rfl⟩:=h3;refine Or.inr ⟨g,c,aL,rfl,h4,h5,by omega,h7,h8,?_⟩;rw[<-h9,List.take_take];congr 1;omega
structure gY where
 m:MC
 t:TG
 mp:Nat
 mo:Int
 ca:Option Addr
 cb:Nat
 cc:Nat
structure wF(g:FG)(x:gY):Prop where
 ok:g.Ok
 ms:x.m.ms=g.ms/\x.m.st=g.st
 st:0<=g.st/\g.st<g.ms.length
 mo:2<=x.mo/\x.mo<=1000000000
 zG:x.m.cl.Pairwise (· <= ·)
 bT:x.m.cl.length<=2000000
 cls:tt x.m.ms x.m.cl
def dx(eb:Nat)(g:FG)(x:gY)(mv:Value)(i:Nat):Prop:=i=eb\/x.t.B i\/i=x.mp\/i=g.fb\/i=g.sb\/i=g.bb\/mv.ownBlock=some i
structure fC(w:World)(eb:Nat)(g:FG)(x:gY)(p:Nat)(s:dq)(M:List Int)(mv:Value):Prop where
 ak:aq w eb (pG g.st (.pointer (some ⟨g.fb,0,none⟩)) (oW g.ms) (.slice x.ca x.m.cl.length x.cc) x.mo x.mp (.pointer (some ⟨p,0,none⟩)) mv) 159
 row:w.ownsRow 0 3 1 mv M.length (cH M)
 map:∃D,lH w x.mp x.mo x.t.T D
 mS:iJ w x.m x.t
 qM:x.t.T p=some s
 fu:iZ w g
 cls:zo w x.ca x.cb x.m.cl
 ap:JP g x.t eb x.mp
 u2:¬g.cI eb/\∀i,x.t.B i->¬g.cI i
 lt:x.mp<w.heap.size
 mN:∀i,mv.ownBlock=some i->(i≠eb/\¬x.t.B i/\i≠x.mp/\i≠g.fb/\i≠g.sb/\i≠g.bb)/\¬g.cI i
 cb:x.m.cl≠ []->¬dx eb g x mv x.cb
theorem fC.kept{x:gY}(h:fC w eb g x p s M mv)(k:aa K w w')(hK:∀i,K i->(¬dx eb g x mv i/\¬g.cI i)/\(x.m.cl≠ []->i≠x.cb)):fC w' eb g x p s M mv:=by
 have hk:∀i,dx eb g x mv i->¬K i:=fun i hi hx=>(hK i hx).1.1 hi
 obtain⟨D,hD⟩:=h.map;exact⟨h.ak.kept k (hk eb (Or.inl rfl)),bR h.row k (fun i hi=>hk i (Or.inr (Or.inr (Or.inr (Or.inr (Or.inr (Or.inr hi))))))),⟨D,hD.kept k (hk _ (Or.inr (Or.inr (Or.inl rfl))))⟩,h.mS.kept k (fun i hi hx=>hk i (Or.inr (Or.inl hx)) hi),h.qM,h.fu.kept k (fun i hi=>⟨fun hx=>hk i (by unfold dx;rcases hx with hx|hx|hx<;>simp[hx]) hi,(hK i hi).1.2⟩),h.cls.kept k (fun az hx=>(hK _ hx).2 az rfl),h.ap,h.u2,Ar h.lt k.size,h.mN,h.cb⟩
theorem fC.new{x:gY}(h:fC w eb g x p s M mv)(k:aa af w w'):fC w' eb g x p s M mv:=h.kept k (fun _ hx=>hx.elim)
theorem fC.gT{x:gY}(h:fC w eb g x p s M mv){i:Nat}(hi:dx eb g x mv i):i<w.heap.size:=by
 obtain⟨_,_,_,_,_,x1,⟨x2,_⟩,⟨x3,_⟩⟩:=h.fu.ex;rcases hi with hi|hi|hi|hi|hi|hi|hi
 ·rw[hi];exact h.ak.lt
 ·exact h.mS.lt i hi
 ·rw[hi];exact h.lt
 ·rw[hi];exact x1.lt
 ·rw[hi];exact x2.lt
 ·rw[hi];exact x3.lt
 ·exact(dw h.row hi).2
theorem fC.lX{x:gY}{M':List Int}(h:fC w eb g x p s M mv)(k:aa K w w7)(hK:∀i,K i->i=eb\/mv.ownBlock=some i)
 (hB:aq w7 eb (pG g.st (.pointer (some ⟨g.fb,0,none⟩)) (oW g.ms) (.slice x.ca x.m.cl.length x.cc) x.mo x.mp (.pointer (some ⟨p',0,none⟩)) fy) 159)(hR:w7.ownsRow 0 3 1 fy M'.length (cH M'))(hN:x.t.T p'=some s')(hl:∀i,fy.ownBlock=some i->mv.ownBlock=some i\/w.heap.size<=i):fC w7 eb g x p' s' M' fy:=by
 have hd:∀i,K i->(¬x.t.B i/\i≠x.mp/\i≠g.fb/\i≠g.sb/\i≠g.bb)/\¬g.cI i:=fun i hi=>by
  rcases hK i hi with e|e
  ·rw[e];exact⟨⟨h.ap.eB,h.ap.em,h.ap.ef.1,h.ap.ef.2.1,h.ap.ef.2.2⟩,h.u2.1⟩
  ·exact⟨⟨(h.mN i e).1.2.1,(h.mN i e).1.2.2.1,(h.mN i e).1.2.2.2.1,(h.mN i e).1.2.2.2.2.1,(h.mN i e).1.2.2.2.2.2⟩,(h.mN i e).2⟩
 obtain⟨D,hD⟩:=h.map;refine⟨hB,hR,⟨D,hD.kept k (fun hx=>(hd _ hx).1.2.1 rfl)⟩,h.mS.kept k (fun i hi=>(hd i hi).1.1),hN,h.fu.kept k (fun i hi=>⟨by have:=(hd i hi).1;omega,(hd i hi).2⟩),h.cls.kept k (fun az hx=>h.cb az (by rcases hK _ hx with e|e;exact Or.inl e;exact Or.inr (Or.inr (Or.inr (Or.inr (Or.inr (Or.inr e))))))),h.ap,h.u2,Ar h.lt k.size,fun i hi=>?_,fun az hx=>?_⟩
 ·rcases hl i hi with e|e
  ·exact h.mN i e
  ·have f1:=h.gT (i:=eb) (Or.inl rfl);have f2:=h.gT (i:=x.mp) (Or.inr (Or.inr (Or.inl rfl)));have f3:=h.gT (i:=g.fb) (by unfold dx;simp);have f4:=h.gT (i:=g.sb) (by unfold dx;simp);have f5:=h.gT (i:=g.bb) (by unfold dx;simp);exact⟨⟨by omega,fun hx=>by have:=h.mS.lt i hx;omega,by omega,by omega,by omega,by omega⟩,fun hx=>by have:=uu h.fu hx;omega⟩
 ·rcases hx with hx|hx|hx|hx|hx|hx|hx
  ·exact h.cb az (Or.inl hx)
  ·exact h.cb az (Or.inr (Or.inl hx))
  ·exact h.cb az (Or.inr (Or.inr (Or.inl hx)))
  ·exact h.cb az (by unfold dx;simp[hx])
  ·exact h.cb az (by unfold dx;simp[hx])
  ·exact h.cb az (by unfold dx;simp[hx])
  ·rcases hl _ hx with e|e
   ·exact h.cb az (by unfold dx;simp[e])
   ·have:=(h.cls.at_ az).2;omega
theorem OZ(st:Int)(fo:Value)(ed:Bool)(cl:Value)(mo:Int)(mp:Nat)(nw mk MZ:Value):(pG st fo ed cl mo mp nw mk).setIfInBounds 7 MZ=pG st fo ed cl mo mp nw MZ:=rfl
theorem aaK(st:Int)(fo:Value)(ed:Bool)(cl:Value)(mo:Int)(mp:Nat)(nw nw' mk:Value):(pG st fo ed cl mo mp nw mk).setIfInBounds 6 nw'=pG st fo ed cl mo mp nw' mk:=rfl
theorem ajX(M:List Int)(v:Int):cH (M++[v])=cH M++[.int .i64 v]:=by unfold cH;simp
theorem ajY(M:List Int)(k:Nat):(cH M).take k=cH (M.take k):=by unfold cH;rw[List.map_take]
theorem ajV(M:List Int)(k:Nat)(v:Int):(cH M).set k (.int .i64 v)=cH (M.set k v):=by unfold cH;rw[Fe]
theorem fC.push{x:gY}(h:fC w eb g x p s M mv)(k0:aa af w W)(bk:w7.ownsRow 0 3 1 fy (M.length+1) (cH M++[.int .i64 v]))(dK:W.grownBy w7 mv.ownBlock)(cx:fy.ownBlock=mv.ownBlock\/fy.ownBlock=some W.heap.size):
 fC (w7.setCell ⟨eb,7,none⟩ fy) eb g x p s (M++[v]) fy/\aa (dx eb g x mv) w (w7.setCell ⟨eb,7,none⟩ fy):=by
 have k7:aa (fun i=>i=eb\/mv.ownBlock=some i) w w7:=(k0.mono (fun _ hx=>hx.elim)).eN dK (fun j hj=>Or.inl (Or.inr hj));have kS:=k7.setCell (p:=⟨eb,7,none⟩) (Or.inl (Or.inl rfl)) fy;have Gz:aa (fun i=>mv.ownBlock=some i) w w7:=(k0.mono (fun _ hx=>hx.elim)).eN dK (fun j hj=>Or.inl hj);have az:¬mv.ownBlock=some eb:=fun hx=>(h.mN eb hx).1.1 rfl
 have hB:=(h.ak.kept Gz az).setCell 7 fy;rw[OZ]at hB;have hle:=h.ak.lt;have aS:=k0.size
 have hl:∀i,fy.ownBlock=some i->mv.ownBlock=some i\/w.heap.size<=i:=fun i hi=>by
  rcases cx with e|e
  ·exact Or.inl (by rw[<-e];exact hi)
  ·rw[e]at hi;cases hi;exact Or.inr aS
 refine⟨h.lX kS (fun i hi=>hi) hB ?_ h.qM hl,kS.mono (fun i hi=>by rcases hi with e|e;exact Or.inl e;exact Or.inr (Or.inr (Or.inr (Or.inr (Or.inr (Or.inr e))))))⟩;rw[ajX,Aj];refine bR bk ((aa.refl (fun i=>i=eb) w7).setCell (p:=⟨eb,7,none⟩) (Or.inl rfl) fy) (fun i hi hx=>?_);rcases hl i hi with e|e
 ·rw[hx]at e;exact az e
 ·omega
theorem fC.put{gb:Nat}{x:gY}(h:fC w eb g x p s M (.slice (some ⟨gb,0,none⟩) n c)):fC (w.setCell ⟨gb,k,none⟩ (.int .i64 v)) eb g x p s (M.set k v) (.slice (some ⟨gb,0,none⟩) n c)/\aa (dx eb g x (.slice (some ⟨gb,0,none⟩) n c)) w (w.setCell ⟨gb,k,none⟩ (.int .i64 v)):=by
 have hn:n=M.length:=by
  obtain⟨ao,c',e⟩:=cA h.row;simp only[Bi]at e;exact e.2.1
 subst hn;have ki:(Value.slice (some ⟨gb,0,none⟩) M.length c).ownBlock=some gb:=rfl;have kS:aa (fun i=>i=gb) w (w.setCell ⟨gb,k,none⟩ (.int .i64 v)):=(aa.refl (fun i=>i=gb) w).setCell (p:=⟨gb,k,none⟩) (Or.inl rfl) _;have hr:=yU h.row k (.int .i64 v);rw[ajV]at hr;refine⟨h.lX kS (fun i hi=>Or.inr (by rw[hi];exact ki)) (h.ak.kept kS (fun hx=>(h.mN gb ki).1.1 hx.symm)) ?_ h.qM (fun i hi=>Or.inl hi),kS.mono (fun i hi=>by rw[hi];unfold dx;simp[ki])⟩;rw[Bk];exact hr
theorem fC.ahb{x:gY}(h:fC w eb g x p s M (.slice ao n c))(hk:k<=n):fC (w.setCell ⟨eb,7,none⟩ (.slice ao k c)) eb g x p s (M.take k) (.slice ao k c)/\aa (dx eb g x (.slice ao n c)) w (w.setCell ⟨eb,7,none⟩ (.slice ao k c)):=by
 have hn:n=M.length:=by
  obtain⟨jd,c',e⟩:=cA h.row;simp only[Bi]at e;exact e.2.1
 subst hn;have ki:(Value.slice ao k c).ownBlock=(Value.slice ao M.length c).ownBlock:=by cases ao<;>rfl
 have kS:aa (fun i=>i=eb) w (w.setCell ⟨eb,7,none⟩ (.slice ao k c)):=(aa.refl (fun i=>i=eb) w).setCell (p:=⟨eb,7,none⟩) (Or.inl rfl) _;have hr:=alN h.row hk;rw[ajY]at hr;have hB:=h.ak.setCell 7 (.slice ao k c);rw[OZ]at hB;refine⟨h.lX kS (fun i hi=>Or.inl hi) hB ?_ h.qM (fun i hi=>Or.inl (by rw[<-ki];exact hi)),kS.mono (fun i hi=>Or.inl hi)⟩;rw[D4,Nat.min_eq_left hk];exact bR hr kS (fun i hi hx=>(h.mN i (by rw[<-ki];exact hi)).1.1 hx)
theorem fC.aia{x:gY}(h:fC w eb g x p s M mv)(hN:x.t.T p'=some s'):fC (w.setCell ⟨eb,6,none⟩ (.pointer (some ⟨p',0,none⟩))) eb g x p' s' M mv/\aa (dx eb g x mv) w (w.setCell ⟨eb,6,none⟩ (.pointer (some ⟨p',0,none⟩))):=by
 have kS:aa (fun i=>i=eb) w (w.setCell ⟨eb,6,none⟩ (.pointer (some ⟨p',0,none⟩))):=(aa.refl (fun i=>i=eb) w).setCell (p:=⟨eb,6,none⟩) (Or.inl rfl) _;have hB:=h.ak.setCell 6 (.pointer (some ⟨p',0,none⟩));rw[aaK]at hB;exact⟨h.lX kS (fun i hi=>Or.inl hi) hB (bR h.row kS (fun i hi hx=>(h.mN i hi).1.1 hx)) hN (fun i hi=>Or.inl hi),kS.mono (fun i hi=>Or.inl hi)⟩
def gY.to0(x:gY)(t':TG):gY:={x with t:=t'}
theorem wF.to0{x:gY}(h:wF g x)(t':TG):wF g (x.to0 t'):=⟨h.ok,h.ms,h.st,h.mo,h.zG,h.bT,h.cls⟩
theorem fC.Wo{x:gY}{D':DataW Unit}(h:fC w eb g x p s M mv)(k:aa K w w')(hK:∀i,K i->x.t.B i\/i=x.mp\/i=g.fb\/i=g.sb\/i=g.bb)(hle:x.t.le t')(hT:iJ w' x.m t')(hM:lH w' x.mp x.mo t'.T D')(hI:iZ w' g)(nG:∀i,t'.B i->x.t.B i\/w.heap.size<=i):
 fC w' eb g (x.to0 t') p s M mv/\aa (dx eb g x mv) w w':=by
 have f1:=h.gT (i:=eb) (Or.inl rfl);have f2:=h.gT (i:=x.mp) (Or.inr (Or.inr (Or.inl rfl)));have f3:=h.gT (i:=g.fb) (by unfold dx;simp);have f4:=h.gT (i:=g.sb) (by unfold dx;simp);have f5:=h.gT (i:=g.bb) (by unfold dx;simp)
 have nB:∀i,i<w.heap.size->¬x.t.B i->¬t'.B i:=fun i h1 h2 hx=>by
  rcases nG i hx with e|e
  ·exact h2 e
  ·omega
 refine⟨⟨h.ak.kept k (fun hx=>?_),bR h.row k (fun i hi hx=>?_),⟨D',hM⟩,hT,hle.T _ _ h.qM,hI,h.cls.kept k (fun az hx=>?_),⟨h.ap.em,h.ap.ef,h.ap.mf,h.ap.mm,nB _ f1 h.ap.eB,nB _ f2 h.ap.mB,nB _ f3 h.ap.fB.1,nB _ f4 h.ap.fB.2.1,nB _ f5 h.ap.fB.2.2⟩,⟨h.u2.1,fun i hi hx=>?_⟩,Ar h.lt k.size,fun i hi=>?_,fun az hx=>?_⟩,k.mono (fun i hi=>?_)⟩
 ·have a1:=h.ap.em;have a2:=h.ap.ef;rcases hK _ hx with e|e|e|e|e
  ·exact h.ap.eB e
  ·exact a1 e
  ·exact a2.1 e
  ·exact a2.2.1 e
  ·exact a2.2.2 e
 ·have a:=(h.mN i hi).1;rcases hK _ hx with e|e|e|e|e
  ·exact a.2.1 e
  ·exact a.2.2.1 e
  ·exact a.2.2.2.1 e
  ·exact a.2.2.2.2.1 e
  ·exact a.2.2.2.2.2 e
 ·refine h.cb az ?_;unfold dx;rcases hK _ hx with e|e|e|e|e<;>simp[e]
 ·rcases nG i hi with e|e
  ·exact h.u2.2 i e hx
  ·have:=uu h.fu hx;omega
 ·have a:=h.mN i hi;exact⟨⟨a.1.1,nB _ (dw h.row hi).2 a.1.2.1,a.1.2.2.1,a.1.2.2.2.1,a.1.2.2.2.2.1,a.1.2.2.2.2.2⟩,a.2⟩
 ·have hc:=(h.cls.at_ az).2;rcases hx with hx|hx|hx|hx|hx|hx|hx
  ·exact h.cb az (Or.inl hx)
  ·rcases nG _ hx with e|e
   ·exact h.cb az (Or.inr (Or.inl e))
   ·have e2:w.heap.size<=x.cb:=e;omega
  ·exact h.cb az (Or.inr (Or.inr (Or.inl hx)))
  ·exact h.cb az (by unfold dx;simp only[gY.to0]at hx;simp[hx])
  ·exact h.cb az (by unfold dx;simp only[gY.to0]at hx;simp[hx])
  ·exact h.cb az (by unfold dx;simp only[gY.to0]at hx;simp[hx])
  ·exact h.cb az (Or.inr (Or.inr (Or.inr (Or.inr (Or.inr (Or.inr hx))))))
 ·unfold dx;rcases hK _ hi with e|e|e|e|e<;>simp[e]
theorem TL(ms:List MS)(ah bh:Int):∀(d:Nat) (u st:Int) (f:FS),pB n f->pB n (gx ms ah bh d u st f).1
 |0,_,_,_,h=>h
 |d+1,u,st,f,h=>by
  have IH:=TL ms ah bh d;have hM:pB n ⟨f.seen.set u.toNat true,f.dF,f.next⟩:=h;unfold gx;split
  ·exact h
  ·split
   ·exact h
   ·split
    ·exact h
    ·split
     ·exact ae1 hM
     ·split
      ·split
       ·exact IH _ _ _ hM
       ·exact hM
      ·split
       ·exact IH _ _ _ hM
       ·split
        ·exact IH _ _ _ hM
        ·exact IH _ _ _ (IH _ _ _ hM)
theorem aeQ(ms:List MS)(ah bh:Int):∀(l:List bF) (f:FS),pB n f->pB n (iW ms ah bh l f).1
 | [],f,h=>h
 |t::ts,f,h=>by
  unfold iW;split
  ·exact TL ms ah bh _ _ _ _ h
  ·exact aeQ ms ah bh ts _ (TL ms ah bh _ _ _ _ h)
theorem aeN(ms:List MS)(ah bh:Int)(l:List bF):(aZ ms ah bh l).1.length<=ms.length:=by
 have h0:pB ms.length (FS.new ms.length):=by
  unfold pB FS.new;simp only[Bb,Ba];exact Be Fd (by simp)
 have:=aeQ ms ah bh l _ h0;unfold pB at this;unfold aZ;simp only;omega
structure KH(w:World)(eb:Nat)(g:FG)(x:gY)(s:dq)(M:List Int)(mv:Value)(place bh:Int)(e:Ending)(w':World):Prop where
 ex:∃(t':TG) (p':Nat) (fy:Value),e=.returned (.tuple #[.int .i64 (((x.m.out bh s).2.2.map (gB (mr s M place))).getD 0),.bool (x.m.out bh s).2.2.isSome])/\fC w' eb g (x.to0 t') p' (x.m.out bh s).1 ((x.m.out bh s).2.1.map (gB (mr s M place))) fy/\cF (dx eb g x mv) (dx eb g (x.to0 t') fy) w w'
theorem KH.drew{x:gY}(h:KH w eb g x s M mv place bh e w'):KH w eb g x s M mv place bh e w'.drew:=by
 obtain⟨t',p',fy,h1,h2,h3⟩:=h.ex;exact⟨t',p',fy,h1,h2.new (aa.refl _ _).drew,h3.new (aa.refl _ _).drew⟩
theorem dx.dD{x:gY}(k:aa (dx eb g x mv) w w')(hB:∀i,t'.B i->x.t.B i\/w.heap.size<=i)(hl:∀i,fy.ownBlock=some i->mv.ownBlock=some i\/w.heap.size<=i):cF (dx eb g x mv) (dx eb g (x.to0 t') fy) w w':=by
 refine⟨k,fun i hi=>?_⟩;rcases hi with hi|hi|hi|hi|hi|hi|hi
 ·exact Or.inl (Or.inl hi)
 ·rcases hB i hi with e|e
  ·exact Or.inl (Or.inr (Or.inl e))
  ·exact Or.inr e
 ·exact Or.inl (Or.inr (Or.inr (Or.inl hi)))
 ·exact Or.inl (by unfold dx;simp[hi])
 ·exact Or.inl (by unfold dx;simp[hi])
 ·exact Or.inl (by unfold dx;simp[hi])
 ·rcases hl i hi with e|e
  ·exact Or.inl (by unfold dx;simp[e])
  ·exact Or.inr e
theorem akE(s:dq)(M:List Int)(v:Int):(mr s M v).length=M.length+(if s.mt then 0 else 1):=by
 unfold mr
 cases s.mt<;>simp
def te(aJ M:List Int)(k:Nat):List Int:=(aJ.take k).map (gB M)++M.drop k
theorem akY(aJ M:List Int):te aJ M 0=M:=by simp[te]
theorem akX(hk:k<aJ.length)(hM:aJ.length<=M.length):(te aJ M k).set k (gB M aJ[k])=te aJ M (k+1):=by
 unfold te;rw[Eh _ _ (by simp;omega),C2 hk,Ch,Cc,Fy,Bw];congr 1;have hl:((aJ.take k).map (gB M)).length=k:=by simp;omega
 rw[hl,Fx,Bu (show k<M.length by omega)];rfl
theorem acP{j:Nat}(hk:k<=j)(hkh:k<=aJ.length)(hj:j<M.length):(te aJ M k)[j]? =some (gB M (j:Int)):=by
 unfold te;have hl:((aJ.take k).map (gB M)).length=k:=by simp;omega
 rw[Bt (by omega),hl,Dl,show k+(j-k)=j by omega];unfold gB;rw[Ay,Af,Ae hj];rfl
theorem Wa(hk:k<=aJ.length)(hM:k<=M.length):(te aJ M k).length=M.length:=by
 unfold te;simp;omega
theorem akW:(te aJ M aJ.length).take aJ.length=aJ.map (gB M):=by
 unfold te;rw[Cl,List.take_append_of_le_length (by simp)];rw[By (by simp)]
def StO(w:World)(eb:Nat)(g:FG)(x:gY)(p:Nat)(s:dq)(M:List Int)(mv:Value)(bh:Int)(e:Ending)(w':World):Prop:=∃(q:Nat) (t':TG) (tq:Nat) (hv:Value),e=.returned (.pointer (some ⟨q,0,none⟩))/\fC w' eb g (x.to0 t') p s M mv/\aq w' q #[.pointer (some ⟨tq,0,none⟩),hv,.int .i64 ((x.m.out bh s).2.2.getD (-1))] 317/\t'.T tq=some (x.m.out bh s).1/\w'.ownsRow 0 3 1 hv (x.m.out bh s).2.1.length (cH (x.m.out bh s).2.1)/\(∀i,hv.ownBlock=some i->t'.B i)/\cF (dx eb g x mv) (dx eb g (x.to0 t') mv) w w'
theorem aj6{x:gY}(hO:wF g x)(hb:0<=bh/\bh<=1114111)(h:fC w eb g x p s M mv)(cT:M.length=jm s.aU):
 Calls prog 233 #[.pointer (some ⟨eb,0,none⟩),.int .i64 place,.int .i32 bh] w (KH w eb g x s M mv place bh):=by
 obtain⟨ao,mc,rfl⟩:=cA h.row;obtain⟨ii,AK,Mz,Gl,oe⟩:=Bo Tryz.VG;have AA:=h.mS.ok p s h.qM;have hMl:M.length<=5000:=by have:=AA.1.TF;have:=AA.1.bT;have:=hO.ok.bT;have e:=congrArg List.length hO.ms.1;omega
 obtain⟨cs0,as0,Ry,e1,_,_⟩:=(h.mS.st p s h.qM).ex;obtain⟨mt,iF⟩:∃mt,s.mt=mt:=⟨_,rfl⟩
 have c2:w.cell? ⟨p,2,none⟩=some (.bool mt):=by rw[<-iF];exact e1.cell 2
 have c6:w.cell? ⟨eb,6,none⟩=some (.pointer (some ⟨p,0,none⟩)):=h.ak.cell 6;have c7:w.cell? ⟨eb,7,none⟩=some (.slice ao M.length mc):=h.ak.cell 7;have f7:w.frozen? ⟨eb,7,none⟩=false:=h.ak.frozen 7;have aiG:=h.ak.lt;have HH:=ab h;have HO:=ab hO;have uL:=ab iF;have qV:=ab cT;clear h hO e1 iF cT AA;go_in;go_upto_if 18 with fail
 go_cut [6] (fun v6 wx=>v6=.int .i64 0/\∃V_,Hid (fC wx eb g x p s (mr s M place) V_)/\Hid (cF (dx eb g x (.slice ao M.length mc)) (dx eb g x V_) w wx))
 case first=>
  cases mt with
  |true=>
   have ax:Hid (fC w eb g x p s (mr s M place) (.slice ao M.length mc)):=by
    have e:mr s M place=M:=by unfold mr;rw[if_pos uL.out]
    show fC _ _ _ _ _ _ _ _
    rw[e];exact HH.out
   clear HH HO uL qV;go_wp2_with fail;go_meet
   case rel=>exact⟨rfl,_,ax,cF.refl _ _⟩
  |false=>
   have fi:=ab HH.out.row
   have ax:Hid (∀(W w7:World) (fy:Value),aa af w W->w7.ownsRow 0 3 1 fy (M.length+1) (cH M++[.int .i64 place])->W.grownBy w7 (Value.slice ao M.length mc).ownBlock->(fy.ownBlock=(Value.slice ao M.length mc).ownBlock\/fy.ownBlock=some W.heap.size)->(w7.cell? ⟨eb,7,none⟩=some (.slice ao M.length mc)/\w7.frozen? ⟨eb,7,none⟩=false)/\fC (w7.setCell ⟨eb,7,none⟩ fy) eb g x p s (mr s M place) fy/\cF (dx eb g x (.slice ao M.length mc)) (dx eb g x fy) w (w7.setCell ⟨eb,7,none⟩ fy)):=fun W w7 fy k0 ho nF hl=>by
    have e:mr s M place=M++[place]:=by unfold mr;rw[if_neg (by rw[uL.out];simp)]
    have:=HH.out.push k0 ho nF hl;have Gz:aa (fun i=>(Value.slice ao M.length mc).ownBlock=some i) w w7:=(k0.mono (fun _ hx=>hx.elim)).eN nF (fun j hj=>Or.inl hj);have hB:=HH.out.ak.kept Gz (fun hx=>(HH.out.mN eb hx).1.1 rfl);rw[e];refine⟨⟨hB.cell 7,hB.frozen 7⟩,this.1,dx.dD (t':=x.t) this.2 (fun i hi=>Or.inl hi) (fun i hi=>?_)⟩;rcases hl with e|e
    ·exact Or.inl (by rw[<-e];exact hi)
    ·rw[e]at hi;cases hi;exact Or.inr k0.size
   clear HH HO uL qV;go_wp2_with (at_builtin;refine Ao _ rfl _ _ 22 rfl 0 3 ii _ 1 8 underlying22 AK Mz Gl oe rfl (by decide) _ _ _ rfl (fi.out.alloc _) ⟨w.heap.size,0,none⟩ 1 1 [.int .i64 place] rfl rfl ?c1 ?c2 ?c3 ?c4 ?c5 ?_)
   case c1=>exact GK _ _
   case c2=>exact vJ _
   case c3=>unfold maxLen;omega
   case c4=>omega
   case c5=>simp
   intro v' w7 bG bY dX cx;obtain⟨jd,c',rfl⟩:=cA bG;obtain⟨⟨p1,p2⟩,p3,p4⟩:=ax.out _ _ _ ((aa.refl _ _).alloc _) bG bY (by rw[fF];exact cx);have F1:=ab p3;have F2:=ab p4;clear bG bY dX cx p3 p4 ax fi;go_wp2_with fail;go_meet
   case rel=>exact⟨rfl,_,F1,F2⟩
 case rest=>
  obtain⟨rfl,V_,HM,Yw⟩:=hcut;clear c2 c6 c7 f7;obtain⟨M1,iK⟩:∃M1,M1=mr s M place:=⟨_,rfl⟩
  rw[<-iK]at HM;obtain⟨a1,c1,ml⟩:=cA HM.out.row;subst ml;have o7:M1.length=jm s.aU+(if s.mt then 0 else 1):=by rw[iK,akE,qV.out]
  have PW:M1.length<=6000:=by have:=qV.out;split at o7<;>omega
  have Sr:=ab o7;have so:=ab iK
  have F:Hid (Calls prog 234 #[.pointer (some ⟨eb,0,none⟩),.int .i32 bh] wc (StO wc eb g x p s M1 (.slice a1 M1.length c1) bh)):=by
   obtain⟨D,hD⟩:=HM.out.map;have h:=HM.out;have o:=HO.out;refine(anW o.ok o.ms o.st hb h.ak o7 o.mo h.lt hD h.mS h.qM h.fu h.ap h.cls o.zG o.bT h.u2.2).mono ?_;rintro e w2 ⟨⟨q,t',D',rfl,h1,h2,h3,h4,h5⟩,h6,h7⟩;obtain⟨i1,i2⟩:=h.Wo h7 (fun i hi=>hi) h1 h2 h3 h6 h5;obtain⟨tq,hv,b1,b2,b3,b4⟩:=h4.at o.cls hb rfl;exact⟨q,t',tq,hv,rfl,i1,b1,b2,b3,b4,dx.dD i2 h5 (fun i hi=>Or.inl hi)⟩
  obtain⟨O,Ul⟩:∃O,O=x.m.out bh s:=⟨_,rfl⟩
  have Hw:=ab Ul
  have uS:Hid (O.2.1.Pairwise (· < ·)/\(∀j∈O.2.1,0<=j/\j<(M1.length:Int))/\∀j,O.2.2=some j->0<=j/\j<(M1.length:Int)):=by
   have df:=(HM.out.mS.ok p s HM.out.qM).1;have e:=HO.out.ms.1;have hf:(aZ x.m.ms s.ah bh (du x.m.st s)).1.length<=x.m.ms.length:=aeN _ _ _ _;have hx:∀t∈ (aZ x.m.ms s.ah bh (du x.m.st s)).1,0<=t.1/\t.1<x.m.ms.length:=(Rw (by rw[e];exact HO.out.ok.ft) _ _ _);obtain⟨_,_,r3,r4,r5⟩:=Wm (jV:=jJ x.m.ms bh) (by rw[e];exact HO.out.ok.ft) df hx hf
   have hn:((jm s.aU:Int)+(if s.mt then 0 else 1))=(M1.length:Int):=by rw[o7];cases s.mt<;>simp
   rw[Ul];rw[hn]at r4 r5;exact⟨r3,r4,r5⟩
  clear Ul iK o7 HM;go_wp2_with fail;refine(F.out).mono ?_;rintro e w2 ⟨q,t',tq,hv,rfl,i1,b1,b2,b3,b4,gn⟩;rw[<-Hw.out]at b1 b2 b3;have uK:=ab i1;have iA:=ab b1;have jA:=ab b2;have uH:=ab b3;have i_:=ab b4;have nP:=ab (Yw.out.trans gn);obtain⟨ha,hc,Qr⟩:=cA b3;subst Qr;have q1:w2.cell? ⟨q,1,none⟩=some (.slice ha O.2.1.length hc):=b1.cell 1;have q2:w2.cell? ⟨q,2,none⟩=some (.int .i64 (O.2.2.getD (-1))):=b1.cell 2;have e7:w2.cell? ⟨eb,7,none⟩=some (.slice a1 M1.length c1):=i1.ak.cell 7;clear F i1 b1 b2 b3 b4 gn Yw;obtain⟨dv,UJ⟩:∃dv,O.2.2.getD (-1)=dv:=⟨_,rfl⟩
  rw[UJ]at q2;have J3:=ab UJ;clear UJ;go_upto_if 36 with fail
  go_cut [6,7] (fun v6 v7 wx=>v6=.int .i64 ((O.2.2.map (gB M1)).getD 0)/\v7=.bool O.2.2.isSome/\Hid (aa af w2 wx))
  case first=>
   obtain⟨o2,D_⟩:∃o2,O.2.2=o2:=⟨_,rfl⟩
   cases o2 with
   |none=>
    have ed:dv= -1:=by rw[<-J3.out,D_];rfl
    subst ed;clear uK iA jA uH i_ nP J3 uS HO HH qV uL Hw Sr so;have JX:=ab D_;clear D_;go_wp2_with fail;go_meet
    case rel=>exact⟨by rw[JX.out];rfl,by rw[JX.out];rfl,aa.refl _ _⟩
   |some d=>
    have ed:dv=d:=by rw[<-J3.out,D_];rfl
    subst ed;obtain⟨ER,rC⟩:=uS.out.2.2 dv D_;obtain⟨k,rfl⟩:=Au ER;obtain⟨gb,cc,e1,_,wW,_,LW,_⟩:=my uK.out.row (by omega);obtain⟨eA,eC⟩:a1=some ⟨gb,0,none⟩/\c1=cc:=by simpa using e1
    subst eA eC;obtain⟨mk,qA⟩:∃mk,mk=gB M1 (k:Int):=⟨_,rfl⟩
    have ck:w2.cell? ⟨gb,k,none⟩=some (.int .i64 mk):=by
     rw[LW k (by omega),qA];have oh:k<M1.length:=(by omega);unfold cH gB;simp[oh]
    have HMK:=ab qA;have tZ:(k:Int)<(M1.length:Int):=rC;have aT:((k:Int)== -1)=false:=(by simp<;>omega);have aO:((k:Int) != -1)=true:=(by simp<;>omega);clear uK iA jA uH i_ nP J3 uS HO HH qV uL Hw Sr so e1 LW qA;have JX:=ab D_;clear D_;go_wp2_with fail;go_quiet (fail);go_wp2_with fail;go_meet
    case rel=>exact⟨by rw[JX.out,HMK.out];rfl,by rw[JX.out];rfl,(aa.refl _ _).drewN _⟩
  case rest=>
   obtain⟨rfl,rfl,iO⟩:=hcut;obtain⟨wd,pQ⟩:∃wd,wd=wc:=⟨_,rfl⟩
   rw[<-pQ]at iO⊢;clear pQ q1 q2 e7;have xT:=ab (uK.out.new iO.out);have wD:=ab (bR uH.out iO.out (fun _ _ hx=>hx));have xO:=ab (iA.out.kept iO.out (fun hx=>hx));have q0:wd.cell? ⟨q,0,none⟩=some (.pointer (some ⟨tq,0,none⟩)):=xO.out.cell 0;have q1:wd.cell? ⟨q,1,none⟩=some (.slice ha O.2.1.length hc):=xO.out.cell 1;have CM:=ab (nP.out.new iO.out);have YM:=ab xT.out.ak;have Sy:Hid (¬(Value.slice a1 M1.length c1).ownBlock=some q):=(fun hx=>KT xO.out xT.out.row (by decide) hx);obtain⟨aJ,qy⟩:∃aJ,aJ=O.2.1:=⟨_,rfl⟩
   rw[<-qy]at q1 wD uS i_;have Yy:=ab qy;clear uK uH iA nP qy
   have PI:aJ.length<=M1.length:=by
    by_cases e:aJ=[]
    ·rw[e];exact Am _
    ·have h1:=aed uS.out.1 (fun y hy=>(uS.out.2.1 y hy).1) (aJ.length-1) (by have:=Bp.2 e;omega);have h2:=(uS.out.2.1 _ (A5 (show aJ.length-1<aJ.length by have:=Bp.2 e;omega))).2;have:=Bp.2 e;omega
   go_wp2_with fail
   go_loopg [52] aJ.length (fun kk v52 wr=>∃k:Nat,v52=.int .i64 (k:Int)/\k<=aJ.length/\kk=aJ.length-k/\Hid (fC wr eb g (x.to0 t') p s (te aJ M1 k) (.slice a1 M1.length c1))/\Hid (aa (fun i=>(Value.slice a1 M1.length c1).ownBlock=some i) wd wr))
   case atStart=>exact⟨0,rfl,Am _,rfl,by rw[akY];exact xT,aa.refl _ _⟩
   case round=>
    obtain⟨k,rfl,hk,eT,wA,CN⟩:=hrel;clear xT;by_cases aw:k<aJ.length
    ·have hit:(k:Int)<(aJ.length:Int):=(by omega);obtain⟨vA,ju,e1,_,wW,_,LW,_⟩:=my wD.out (by omega);obtain⟨eA,eC⟩:ha=some ⟨vA,0,none⟩/\hc=ju:=by simpa using e1
     subst eA eC;obtain⟨gb,mcc,e2,_,apx,_,PH,abF⟩:=my wA.out.row (by rw[Wa hk (by omega)];omega);rw[Wa hk (by omega)]at e2 PH;obtain⟨eA,eC⟩:a1=some ⟨gb,0,none⟩/\c1=mcc:=by simpa using e2
     subst eA eC;obtain⟨UU,rG⟩:=uS.out.2.1 _ (A5 aw);have hjk:=aed uS.out.1 (fun y hy=>(uS.out.2.1 y hy).1) k aw;obtain⟨j,hj⟩:=Au UU;have hjM:j<M1.length:=(by omega);have aiX:k<=j:=(by omega);have az:vA≠gb:=fun e=>(wA.out.mN gb rfl).1.2.1 (by rw[<-e];exact i_.out vA rfl)
     have ch:wr.cell? ⟨vA,k,none⟩=some (.int .i64 (j:Int)):=by
      refine(CN.out.cell (p:=⟨vA,k,none⟩) wW (fun hx=>az (by simpa[Value.ownBlock]using hx.symm))).trans ?_;rw[LW k aw];unfold cH;simp[aw,hj]
     obtain⟨mk,qA⟩:∃mk,mk=gB M1 (j:Int):=⟨_,rfl⟩
     have cj:wr.cell? ⟨gb,j,none⟩=some (.int .i64 mk):=by
      rw[PH j (by omega),qA];unfold cH;rw[Bv,acP aiX hk hjM];rfl
     have ckx:∃u,wr.cell? ⟨gb,k,none⟩=some u:=by
      rw[PH k (by omega)];unfold cH;rw[Bv,acP (Ab k) hk (by omega)];exact⟨_,rfl⟩
     obtain⟨uk,ck⟩:=ckx;have fk:wr.frozen? ⟨gb,k,none⟩=false:=abF k;have e7:wr.cell? ⟨eb,7,none⟩=some (.slice (some ⟨gb,0,none⟩) M1.length c1):=wA.out.ak.cell 7;have mg:(j:Int)<(M1.length:Int):=(by omega);have tZ:(k:Int)<(M1.length:Int):=by omega
     have NX:Hid (fC (wr.setCell ⟨gb,k,none⟩ (.int .i64 mk)) eb g (x.to0 t') p s (te aJ M1 (k+1)) (.slice (some ⟨gb,0,none⟩) M1.length c1)/\aa (fun i=>(Value.slice (some ⟨gb,0,none⟩) M1.length c1).ownBlock=some i) wd (wr.setCell ⟨gb,k,none⟩ (.int .i64 mk))):=by
      have:=(wA.out.put (k:=k) (v:=mk)).1;rw[qA,<-hj,akX aw PI]at this;rw[qA,<-hj];exact⟨this,CN.out.setCell (p:=⟨gb,k,none⟩) (Or.inl rfl) _⟩
     clear wA CN LW PH abF e1 e2 qA hj;go_wp2_with fail;go_region;go_wp2_with fail;go_roundg (aJ.length-(k+1))
     case measure=>omega
     case rel=>exact⟨k+1,by simp,by omega,rfl,NX.out.1.new ((aa.refl _ _).drew),NX.out.2.drew⟩
    ·have hke:k=aJ.length:=(by omega);subst hke;have hit:¬((aJ.length:Int)<(aJ.length:Int)):=(by omega);have aim:=Wa (Ab aJ.length) PI;have HC:=wA.out.ahb (k:=aJ.length) PI;rw[akW]at HC;have HT:(x.to0 t').t.T tq=some O.1:=jA.out;have HN:=HC.1.aia HT;have e7:wr.cell? ⟨eb,7,none⟩=some (.slice a1 M1.length c1):=wA.out.ak.cell 7;have f7:wr.frozen? ⟨eb,7,none⟩=false:=wA.out.ak.frozen 7;have e6:(wr.setCell ⟨eb,7,none⟩ (.slice a1 aJ.length c1)).cell? ⟨eb,6,none⟩=some (.pointer (some ⟨p,0,none⟩)):=HC.1.ak.cell 6;have f6:(wr.setCell ⟨eb,7,none⟩ (.slice a1 aJ.length c1)).frozen? ⟨eb,6,none⟩=false:=HC.1.ak.frozen 6;have qE:q≠eb:=KS xO.out YM.out (by decide);have Qk:q<wd.heap.size:=xO.out.lt;have q1':wr.cell? ⟨q,1,none⟩=some (.slice ha aJ.length hc):=(CN.out.cell (p:=⟨q,1,none⟩) Qk Sy.out).trans q1
     have q0':(wr.setCell ⟨eb,7,none⟩ (.slice a1 aJ.length c1)).cell? ⟨q,0,none⟩=some (.pointer (some ⟨tq,0,none⟩)):=by
      rw[World.cell?_setCell_far _ _ _ _ (by exact fun e=>qE e.symm)];exact(CN.out.cell (p:=⟨q,0,none⟩) Qk Sy.out).trans q0
     have hMI:(aJ.length:Int)<=(M1.length:Int):=by omega
     have yt:M1.length<=c1/\(a1=none->M1.length=0/\c1=0):=by
      have hr:=wA.out.row;rcases hr.2 with⟨h1,h2⟩|⟨_,cap,_,h1,_,_,h4,_⟩
      ·simp only[Bi]at h1;exact⟨by omega,fun _=>⟨h1.2.1,h1.2.2⟩⟩
      ·simp only[Bi]at h1;refine⟨by omega,fun e=>?_⟩;rw[e]at h1
       cases h1.1
     have KF:=(CN.out.mono (fun i hi=>(by unfold dx;simp[hi]:dx eb g (x.to0 t') (.slice a1 M1.length c1) i))).trans (HC.2.trans (HN.2.mono (fun i hi=>by
      rcases hi with hi|hi|hi|hi|hi|hi|hi
      ·exact Or.inl hi
      ·exact Or.inr (Or.inl hi)
      ·exact Or.inr (Or.inr (Or.inl hi))
      ·exact Or.inr (Or.inr (Or.inr (Or.inl hi)))
      ·exact Or.inr (Or.inr (Or.inr (Or.inr (Or.inl hi))))
      ·exact Or.inr (Or.inr (Or.inr (Or.inr (Or.inr (Or.inl hi)))))
      ·exact Or.inr (Or.inr (Or.inr (Or.inr (Or.inr (Or.inr (by cases a1<;>exact hi)))))))))
     have ax:Hid (KH w eb g x s M (.slice ao M.length mc) place bh (.returned (.tuple #[.int .i64 ((O.2.2.map (gB M1)).getD 0),.bool O.2.2.isSome])) ((wr.setCell ⟨eb,7,none⟩ (.slice a1 aJ.length c1)).setCell ⟨eb,6,none⟩ (.pointer (some ⟨tq,0,none⟩)))):=by
      refine⟨t',tq,.slice a1 aJ.length c1,by rw[Hw.out,so.out],by rw[<-Hw.out,<-so.out,<-Yy.out];exact HN.1,CM.out.trans ⟨KF,fun i hi=>Or.inl ?_⟩⟩;rcases hi with hi|hi|hi|hi|hi|hi|hi
      ·exact Or.inl hi
      ·exact Or.inr (Or.inl hi)
      ·exact Or.inr (Or.inr (Or.inl hi))
      ·exact Or.inr (Or.inr (Or.inr (Or.inl hi)))
      ·exact Or.inr (Or.inr (Or.inr (Or.inr (Or.inl hi))))
      ·exact Or.inr (Or.inr (Or.inr (Or.inr (Or.inr (Or.inl hi)))))
      ·exact Or.inr (Or.inr (Or.inr (Or.inr (Or.inr (Or.inr (by cases a1<;>exact hi))))))
     clear HC HN wA CN KF HT aim xO YM uS wD jA i_ CM Sy Yy Hw so HO HH uL qV Sr iO J3 q0 q1
     cases a1 with
     |none=>
      obtain⟨h0,nC⟩:=yt.2 rfl;have hh0:aJ.length=0:=(by omega);rw[hh0]at*;rw[h0]at*;subst nC;go_wp2_with fail;go_region;go_wp2_with fail;go_ret2;exact ax.out.drew
     |some ad=>
      have hcI:¬((c1:Int)<(aJ.length:Int)):=(by omega);go_wp2_with fail;go_region;go_wp2_with fail;go_ret2;exact ax.out.drew
structure Kw(w:World)(eb:Nat)(g:FG)(x:gY)(nw:Value)(M:List Int)(mv:Value):Prop where
 ak:aq w eb (pG g.st (.pointer (some ⟨g.fb,0,none⟩)) (oW g.ms) (.slice x.ca x.m.cl.length x.cc) x.mo x.mp nw mv) 159
 row:w.ownsRow 0 3 1 mv M.length (cH M)
 map:∃D,lH w x.mp x.mo x.t.T D
 mS:iJ w x.m x.t
 fu:iZ w g
 cls:zo w x.ca x.cb x.m.cl
 ap:JP g x.t eb x.mp
 u2:¬g.cI eb/\∀i,x.t.B i->¬g.cI i
 lt:x.mp<w.heap.size
 mN:∀i,mv.ownBlock=some i->(i≠eb/\¬x.t.B i/\i≠x.mp/\i≠g.fb/\i≠g.sb/\i≠g.bb)/\¬g.cI i
 cb:x.m.cl≠ []->¬dx eb g x mv x.cb
theorem fC.pre{x:gY}(h:fC w eb g x p s M mv):Kw w eb g x (.pointer (some ⟨p,0,none⟩)) M mv:=⟨h.ak,h.row,h.map,h.mS,h.fu,h.cls,h.ap,h.u2,h.lt,h.mN,h.cb⟩
def xD(ms:List MS)(c:Int):dq:=⟨[],jJ ms c,false⟩
theorem aeL(ms:List MS)(c:Int):(xD ms c).Ok ms:=⟨fun t ht=>(by cases ht),fun t ht=>(by cases ht),List.Pairwise.nil,Am _,Ab _⟩
theorem Kw.dF{w2:World}{x:gY}{s0:dq}(hO:wF g x)(h:Kw w eb g x nw M (.slice ao n c))(h0:s0.aU=[]/\s0.Ok g.ms/\(s0.ah= -1\/s0.ah=119\/s0.ah=32))(P:x_ (w.setCell ⟨eb,7,none⟩ (.slice ao 0 c)) x.mp x.mo x.t.T s0 (.slice none s0.aU.length 0) e w2):
 ∃(p':Nat) (t':TG),e=.returned (.pointer (some ⟨p',0,none⟩))/\((∃u,w2.cell? ⟨eb,6,none⟩=some u)/\w2.frozen? ⟨eb,6,none⟩=false)/\fC (w2.setCell ⟨eb,6,none⟩ (.pointer (some ⟨p',0,none⟩))) eb g (x.to0 t') p' s0 [] (.slice ao 0 c)/\cF (dx eb g x (.slice ao n c)) (dx eb g (x.to0 t') (.slice ao 0 c)) w (w2.setCell ⟨eb,6,none⟩ (.pointer (some ⟨p',0,none⟩))):=by
 obtain⟨⟨p',T',D',rfl,Un,tP,Vg⟩,hk⟩:=P
 have hn:n=M.length:=by
  obtain⟨jd,c',e⟩:=cA h.row;simp only[Bi]at e;exact e.2.1
 subst hn;have ki:(Value.slice ao 0 c).ownBlock=(Value.slice ao M.length c).ownBlock:=by cases ao<;>rfl
 have rL:(w.setCell ⟨eb,7,none⟩ (.slice ao 0 c)).heap.size=w.heap.size:=by simp
 have k1:aa (fun i=>i=eb) w (w.setCell ⟨eb,7,none⟩ (.slice ao 0 c)):=(aa.refl (fun i=>i=eb) w).setCell (p:=⟨eb,7,none⟩) (Or.inl rfl) _;have B1:=h.ak.setCell 7 (.slice ao 0 c);rw[OZ]at B1;have B2:=B1.kept hk h.ap.em;have B3:=B2.setCell 6 (.pointer (some ⟨p',0,none⟩));rw[aaK]at B3;have k2:aa (fun i=>i=eb\/i=x.mp) w w2:=(k1.mono (fun i hi=>Or.inl hi)).trans (hk.mono (fun i hi=>Or.inr hi));have k3:aa (fun i=>i=eb\/i=x.mp) w (w2.setCell ⟨eb,6,none⟩ (.pointer (some ⟨p',0,none⟩))):=k2.setCell (p:=⟨eb,6,none⟩) (Or.inl (Or.inl rfl)) _;have k6:aa (fun i=>i=eb) w2 (w2.setCell ⟨eb,6,none⟩ (.pointer (some ⟨p',0,none⟩))):=(aa.refl (fun i=>i=eb) w2).setCell (p:=⟨eb,6,none⟩) (Or.inl rfl) _;have hr0:w.ownsRow 0 3 1 (.slice ao 0 c) ([]:List Int).length (cH []):=Ws h.row
 have hr:(w2.setCell ⟨eb,6,none⟩ (.pointer (some ⟨p',0,none⟩))).ownsRow 0 3 1 (.slice ao 0 c) ([]:List Int).length (cH []):=bR hr0 k3 (fun i hi hx=>by
  have:=(h.mN i (by rw[<-ki];exact hi)).1;rcases hx with hx|hx
  ·exact this.1 hx
  ·exact this.2.2.1 hx)
 have hKB:∀i,(i=eb\/i=x.mp)->¬x.t.B i:=fun i hx=>by
  rcases hx with hx|hx
  ·rw[hx];exact h.ap.eB
  ·rw[hx];exact h.ap.mB
 obtain⟨_,_,_,_,_,x1,⟨x2,_⟩,⟨x3,_⟩⟩:=h.fu.ex;have f1:=x1.lt;have f2:=x2.lt;have f3:=x3.lt;have f4:=h.ak.lt;have f5:=h.lt
 have hI:=h.fu.kept k3 (fun i hx=>by
  have a1:=h.ap.ef;have a2:=h.ap.mf;rcases hx with hx|hx
  ·rw[hx];exact⟨by omega,h.u2.1⟩
  ·rw[hx];exact⟨by omega,h.ap.mm⟩)
 have hC:=h.cls.kept k3 (fun az hx=>by
  rcases hx with hx|hx
  ·exact h.cb az (Or.inl hx)
  ·exact h.cb az (Or.inr (Or.inr (Or.inl hx))))
 have KEY:∃t',x.t.le t'/\iJ (w2.setCell ⟨eb,6,none⟩ (.pointer (some ⟨p',0,none⟩))) x.m t'/\t'.T=T'/\∀i,t'.B i->x.t.B i\/w.heap.size<=i:=by
  rcases Vg with rfl|⟨hp,hTT,hB⟩
  ·exact⟨x.t,TG.le.refl _,h.mS.kept k3 hKB,rfl,fun i hi=>Or.inl hi⟩
  ·rw[rL]at hp;have dX:(Value.slice none s0.aU.length 0)=.slice none 0 0:=by rw[h0.1];rfl
   have iR:=hB.kept k6 (by omega);refine⟨x.t.add p' s0 (.slice none s0.aU.length 0),TG.Tb (h.mS.fresh (by omega)),h.mS.add (base:=0) k3 hKB (by omega) iR ?_ ⟨by rw[hO.ms.1];exact h0.2.1,h0.2.2⟩,hTT.symm,fun i hi=>?_⟩
   ·rw[h0.1];exact A7 _ _ _ _
   ·rcases hi with hi|hi|hi
    ·exact Or.inl hi
    ·exact Or.inr (by omega)
    ·rw[dX]at hi;cases hi
 obtain⟨t',hle,qu,hTe,nG⟩:=KEY
 have nB:∀i,i<w.heap.size->¬x.t.B i->¬t'.B i:=fun i h1 h2 hx=>by
  rcases nG i hx with e|e
  ·exact h2 e
  ·omega
 refine⟨p',t',rfl,⟨⟨_,B2.cell 6⟩,B2.frozen 6⟩,⟨B3,hr,⟨D',by rw[show(x.to0 t').t.T=T' from hTe];exact tP.kept k6 (fun hx=>h.ap.em hx.symm)⟩,qu,by rw[show(x.to0 t').t.T=T' from hTe];exact Un,hI,hC,⟨h.ap.em,h.ap.ef,h.ap.mf,h.ap.mm,nB _ f4 h.ap.eB,nB _ f5 h.ap.mB,nB _ f1 h.ap.fB.1,nB _ f2 h.ap.fB.2.1,nB _ f3 h.ap.fB.2.2⟩,⟨h.u2.1,fun i hi hx=>?_⟩,Ar h.lt k3.size,fun i hi=>?_,fun az hx=>?_⟩,dx.dD (k3.mono (fun i hi=>?_)) nG (fun i hi=>Or.inl (by rw[<-ki];exact hi))⟩
 ·rcases nG i hi with e|e
  ·exact h.u2.2 i e hx
  ·have:=uu h.fu hx;omega
 ·have hi':(Value.slice ao M.length c).ownBlock=some i:=by rw[<-ki];exact hi
  have a:=h.mN i hi';exact⟨⟨a.1.1,nB _ (dw h.row hi').2 a.1.2.1,a.1.2.2.1,a.1.2.2.2.1,a.1.2.2.2.2.1,a.1.2.2.2.2.2⟩,a.2⟩
 ·have hc:=(h.cls.at_ az).2;rcases hx with hx|hx|hx|hx|hx|hx|hx
  ·exact h.cb az (Or.inl hx)
  ·rcases nG _ hx with e|e
   ·exact h.cb az (Or.inr (Or.inl e))
   ·have e2:w.heap.size<=x.cb:=e;omega
  ·exact h.cb az (Or.inr (Or.inr (Or.inl hx)))
  ·exact h.cb az (Or.inr (Or.inr (Or.inr (Or.inl hx))))
  ·exact h.cb az (Or.inr (Or.inr (Or.inr (Or.inr (Or.inl hx)))))
  ·exact h.cb az (Or.inr (Or.inr (Or.inr (Or.inr (Or.inr (Or.inl hx))))))
  ·exact h.cb az (Or.inr (Or.inr (Or.inr (Or.inr (Or.inr (Or.inr (by rw[<-ki];exact hx)))))))
 ·rcases hi with hi|hi
  ·exact Or.inl hi
  ·exact Or.inr (Or.inr (Or.inl hi))
def RX(w:World)(eb:Nat)(g:FG)(x:gY)(mv:Value)(c:Int)(e:Ending)(w':World):Prop:=e=.returned (.tuple #[])/\∃(p':Nat) (t':TG) (fy:Value),fC w' eb g (x.to0 t') p' (xD g.ms c) [] fy/\cF (dx eb g x mv) (dx eb g (x.to0 t') fy) w w'
theorem acp{x:gY}{c:Int}(hO:wF g x)(h:Kw w eb g x nw M mv):
 Calls prog 72 #[.pointer (some ⟨eb,0,none⟩),.int .i32 c] w (RX w eb g x mv c):=by
 obtain⟨ao,mc,rfl⟩:=cA h.row;obtain⟨D,hD⟩:=h.map;have k1:aa (fun i=>i=eb) w (w.setCell ⟨eb,7,none⟩ (.slice ao 0 mc)):=(aa.refl (fun i=>i=eb) w).setCell (p:=⟨eb,7,none⟩) (Or.inl rfl) _;have B1:=h.ak.setCell 7 (.slice ao 0 mc);rw[OZ]at B1;have rL:(w.setCell ⟨eb,7,none⟩ (.slice ao 0 mc)).heap.size=w.heap.size:=by simp
 have F1:=ab (acx (c:=c) B1)
 have F2:Hid (Calls prog 101 #[.pointer (some ⟨eb,0,none⟩),.agg #[.slice none 0 0,.int .i32 (jJ g.ms c),.bool false,.slice none 0 0]] (w.setCell ⟨eb,7,none⟩ (.slice ao 0 mc)) (x_ (w.setCell ⟨eb,7,none⟩ (.slice ao 0 mc)) x.mp x.mo x.t.T (xD g.ms c) (.slice none (xD g.ms c).aU.length 0))):=
  acq (ms:=g.ms) (tb:=0) (s:=xD g.ms c) B1 (hD.kept k1 (fun hx=>h.ap.em hx.symm)) (fun hx=>h.ap.em hx.symm) (by rw[rL];exact h.lt) hO.mo (by rw[<-hO.ms.1];exact h.mS.ok) (by rw[rL];exact h.mS.fresh (Ab _)) hO.ok.bT (aeL _ _) (Xe _ _) ⟨fun az=>absurd rfl az,fun k hk=>(by cases hk)⟩
 have c7:w.cell? ⟨eb,7,none⟩=some (.slice ao M.length mc):=h.ak.cell 7;have f7:w.frozen? ⟨eb,7,none⟩=false:=h.ak.frozen 7
 have yt:M.length<=mc/\(ao=none->M.length=0/\mc=0):=by
  rcases h.row.2 with⟨h1,h2⟩|⟨_,cap,_,h1,_,_,h4,_⟩
  ·simp only[Bi]at h1;exact⟨by omega,fun _=>⟨h1.2.1,h1.2.2⟩⟩
  ·simp only[Bi]at h1;refine⟨by omega,fun e=>?_⟩;rw[e]at h1
   cases h1.1
 have CB:Hid (∀e w2,x_ (w.setCell ⟨eb,7,none⟩ (.slice ao 0 mc)) x.mp x.mo x.t.T (xD g.ms c) (.slice none (xD g.ms c).aU.length 0) e w2->∃p' u,e=.returned (.pointer (some ⟨p',0,none⟩))/\(w2.cell? ⟨eb,6,none⟩=some u/\w2.frozen? ⟨eb,6,none⟩=false)/\RX w eb g x (.slice ao M.length mc) c (.returned (.tuple #[])) (w2.setCell ⟨eb,6,none⟩ (.pointer (some ⟨p',0,none⟩)))):=fun e w2 P=>by
  obtain⟨p',t',rfl,⟨⟨u,hu⟩,hf⟩,h3,h4⟩:=h.dF hO ⟨rfl,aeL _ _,Xe _ _⟩ P;exact⟨p',u,rfl,⟨hu,hf⟩,rfl,p',t',_,h3,h4⟩
 clear h hO B1 k1 hD rL
 cases ao with
 |none=>
  obtain⟨h0,nC⟩:=yt.2 rfl;rw[h0]at c7;subst nC;clear yt;go_enter func72,ntmps72;go_wp2_with fail;refine(F1.out).mono ?_;rintro e w1 ⟨rfl,rfl⟩;go_wp2_with fail;refine(F2.out).mono ?_;intro e w2 P;obtain⟨p',u,rfl,⟨c6,f6⟩,FF⟩:=CB.out e w2 P;have J7:=ab FF;clear P FF F1 F2 CB c7 f7;go_wp2_with fail;go_end0;exact J7.out
 |some ad=>
  have hcI:¬((mc:Int)<0):=by omega
  clear yt;go_enter func72,ntmps72;go_wp2_with fail;refine(F1.out).mono ?_;rintro e w1 ⟨rfl,rfl⟩;go_wp2_with fail;refine(F2.out).mono ?_;intro e w2 P;obtain⟨p',u,rfl,⟨c6,f6⟩,FF⟩:=CB.out e w2 P;have J7:=ab FF;clear P FF F1 F2 CB c7 f7;go_wp2_with fail;go_end0;exact J7.out
theorem aj3{x:gY}(h:fC w eb g x p s M mv):Calls prog 231 #[.pointer (some ⟨eb,0,none⟩)] w fun e w'=>e=.returned (.tuple #[.int .i64 (M.headD 0),.bool (!M.isEmpty)])/\w'=w:=aj4 h.ak h.row
def su(B:Nat)(ao:Option Addr)(n c:Nat)(u x:Int)(w':World):Prop:=w'.cell? ⟨B,0,none⟩=some (.slice ao n c)/\w'.cell? ⟨B,1,none⟩=some (.int .i64 u)/\w'.cell? ⟨B,2,none⟩=some (.int .i64 x)
theorem su.of{B:Nat}{u x:Int}{t:TypeId}(h:aq W B #[.slice ao n c,.int .i64 u,.int .i64 x] t):su B ao n c u x W:=⟨h.cell 0,h.cell 1,h.cell 2⟩
theorem Tryz.ajL:(prog.info? 4).map (fun i=>(i.zero,i.size,i.bytes))=some (some (.bool false),1,1):=by kernel_rfl
end Go.Proofs.YtpdnofhackjfdaaGreatDoor
