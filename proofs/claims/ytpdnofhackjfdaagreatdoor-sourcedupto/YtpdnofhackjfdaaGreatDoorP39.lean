/- Package marks -/
import Derived.Test.YtpdnofhackjfdaaGreatDoorP38
set_option linter.all false
set_option maxRecDepth 100000
set_option maxHeartbeats 8000000
namespace Go.Proofs.YtpdnofhackjfdaaGreatDoor
open Go.Proofs.Tryz
open Go.RowKit Go.Maps
variable {e:Ending} {g:FG} {bh place v:Int} {M aN:List Int} {s s':dC} {c eb k n p p':Nat} {K:Nat->Prop} {ao:Option Addr} {t':TG} {mv fK nw:Value} {W w w' w7:World}
theorem amH{base e:Nat}{xs:List Value}(h:w.ownsRow base e 1 (.slice ao n c) n xs)(hk:k<=n):w.ownsRow base e 1 (.slice ao k c) k (xs.take k):=by
 have hx:=h.1;refine⟨by rw[Cv];omega,?_⟩;rcases h.2 with⟨h2,h3⟩|⟨g,cap,aO,h3,h4,h5,h6,h7,h8,h9⟩
 ·simp only[A9]at h2;obtain⟨rfl,rfl,rfl⟩:=h2;obtain rfl:k=0:=by omega
  exact Or.inl ⟨rfl,rfl⟩
 ·simp only[A9]at h3;obtain⟨rfl,_,rfl⟩:=h3;refine Or.inr ⟨g,c,aO,rfl,h4,h5,by omega,h7,h8,?_⟩;rw[<-h9,Gh];congr 1;omega
structure im where
 m:MC
 t:TG
 mp:Nat
 mo:Int
 ca:Option Addr
 cb:Nat
 cc:Nat
structure xm(g:FG)(x:im):Prop where
 ok:g.Ok
 ms:x.m.ms=g.ms/\x.m.st=g.st
 st:0<=g.st/\g.st<g.ms.length
 mo:2<=x.mo/\x.mo<=1000000000
 AU:x.m.cl.Pairwise (· <= ·)
 bN:x.m.cl.length<=2000000
 cls:tO x.m.ms x.m.cl
def dG(eb:Nat)(g:FG)(x:im)(mv:Value)(i:Nat):Prop:=i=eb\/x.t.B i\/i=x.mp\/i=g.fb\/i=g.sb\/i=g.bb\/mv.ownBlock=some i
structure fM(w:World)(eb:Nat)(g:FG)(x:im)(p:Nat)(s:dC)(M:List Int)(mv:Value):Prop where
 aq:au w eb (p_ g.st (BT g.fb 0) (pz g.ms) (.slice x.ca x.m.cl.length x.cc) x.mo x.mp (BT p 0) mv) 159
 row:w.ownsRow 0 3 1 mv M.length (cQ M)
 map:∃D,lU w x.mp x.mo x.t.T D
 nu:iV w x.m x.t
 rz:x.t.T p=some s
 fO:jh w g
 cls:AE w x.ca x.cb x.m.cl
 ap:KP g x.t eb x.mp
 vD:¬g.cP eb/\∀i,x.t.B i->¬g.cP i
 lt:x.mp<w.heap.size
 nf:∀i,mv.ownBlock=some i->(i≠eb/\¬x.t.B i/\i≠x.mp/\i≠g.fb/\i≠g.sb/\i≠g.bb)/\¬g.cP i
 cb:x.m.cl≠ []->¬dG eb g x mv x.cb
theorem fM.kept{x:im}(h:fM w eb g x p s M mv)(k:aa K w w')(hK:∀i,K i->(¬dG eb g x mv i/\¬g.cP i)/\(x.m.cl≠ []->i≠x.cb)):fM w' eb g x p s M mv:=by
 have hk:∀i,dG eb g x mv i->¬K i:=fun i hi hx=>(hK i hx).1.1 hi
 obtain⟨D,hD⟩:=h.map;exact⟨h.aq.kept k (hk eb (Or.inl rfl)),bU h.row k (fun i hi=>hk i (Or.inr (Or.inr (Or.inr (Or.inr (Or.inr (Or.inr hi))))))),⟨D,hD.kept k (hk _ (Or.inr (Or.inr (Or.inl rfl))))⟩,h.nu.kept k (fun i hi hx=>hk i (Or.inr (Or.inl hx)) hi),h.rz,h.fO.kept k (fun i hi=>⟨fun hx=>hk i (by unfold dG;rcases hx with hx|hx|hx<;>simp[hx]) hi,(hK i hi).1.2⟩),h.cls.kept k (fun aB hx=>(hK _ hx).2 aB rfl),h.ap,h.vD,Ar h.lt k.size,h.nf,h.cb⟩
theorem fM.new{x:im}(h:fM w eb g x p s M mv)(k:aa ai w w'):fM w' eb g x p s M mv:=h.kept k (fun _ hx=>hx.elim)
theorem fM.ic{x:im}(h:fM w eb g x p s M mv){i:Nat}(hi:dG eb g x mv i):i<w.heap.size:=by
 obtain⟨_,_,_,_,_,x1,⟨x2,_⟩,⟨x3,_⟩⟩:=h.fO.ex;rcases hi with hi|hi|hi|hi|hi|hi|hi
 ·rw[hi];exact h.aq.lt
 ·exact h.nu.lt i hi
 ·rw[hi];exact h.lt
 ·rw[hi];exact x1.lt
 ·rw[hi];exact x2.lt
 ·rw[hi];exact x3.lt
 ·exact(dw h.row hi).2
theorem fM.lr{x:im}{M':List Int}(h:fM w eb g x p s M mv)(k:aa K w w7)(hK:∀i,K i->i=eb\/mv.ownBlock=some i)
 (hB:au w7 eb (p_ g.st (BT g.fb 0) (pz g.ms) (.slice x.ca x.m.cl.length x.cc) x.mo x.mp (BT p' 0) fK) 159)(hR:w7.ownsRow 0 3 1 fK M'.length (cQ M'))(hN:x.t.T p'=some s')(hl:∀i,fK.ownBlock=some i->mv.ownBlock=some i\/w.heap.size<=i):fM w7 eb g x p' s' M' fK:=by
 have hd:∀i,K i->(¬x.t.B i/\i≠x.mp/\i≠g.fb/\i≠g.sb/\i≠g.bb)/\¬g.cP i:=fun i hi=>by
  rcases hK i hi with e|e
  ·rw[e];exact⟨⟨h.ap.eB,h.ap.em,h.ap.ef.1,h.ap.ef.2.1,h.ap.ef.2.2⟩,h.vD.1⟩
  ·exact⟨⟨(h.nf i e).1.2.1,(h.nf i e).1.2.2.1,(h.nf i e).1.2.2.2.1,(h.nf i e).1.2.2.2.2.1,(h.nf i e).1.2.2.2.2.2⟩,(h.nf i e).2⟩
 obtain⟨D,hD⟩:=h.map;refine⟨hB,hR,⟨D,hD.kept k (fun hx=>(hd _ hx).1.2.1 rfl)⟩,h.nu.kept k (fun i hi=>(hd i hi).1.1),hN,h.fO.kept k (fun i hi=>⟨by have:=(hd i hi).1;omega,(hd i hi).2⟩),h.cls.kept k (fun aB hx=>h.cb aB (by rcases hK _ hx with e|e;exact Or.inl e;exact Or.inr (Or.inr (Or.inr (Or.inr (Or.inr (Or.inr e))))))),h.ap,h.vD,Ar h.lt k.size,fun i hi=>?_,fun aB hx=>?_⟩
 ·rcases hl i hi with e|e
  ·exact h.nf i e
  ·have f1:=h.ic (i:=eb) (Or.inl rfl);have f2:=h.ic (i:=x.mp) (Or.inr (Or.inr (Or.inl rfl)));have f3:=h.ic (i:=g.fb) (by unfold dG;simp);have f4:=h.ic (i:=g.sb) (by unfold dG;simp);have f5:=h.ic (i:=g.bb) (by unfold dG;simp);exact⟨⟨by omega,fun hx=>by have:=h.nu.lt i hx;omega,by omega,by omega,by omega,by omega⟩,fun hx=>by have:=uQ h.fO hx;omega⟩
 ·rcases hx with hx|hx|hx|hx|hx|hx|hx
  ·exact h.cb aB (Or.inl hx)
  ·exact h.cb aB (Or.inr (Or.inl hx))
  ·exact h.cb aB (Or.inr (Or.inr (Or.inl hx)))
  ·exact h.cb aB (by unfold dG;simp[hx])
  ·exact h.cb aB (by unfold dG;simp[hx])
  ·exact h.cb aB (by unfold dG;simp[hx])
  ·rcases hl _ hx with e|e
   ·exact h.cb aB (by unfold dG;simp[e])
   ·have:=(h.cls.at_ aB).2;omega
theorem QA(st:Int)(fo:Value)(ed:Bool)(cl:Value)(mo:Int)(mp:Nat)(nw mk Oh:Value):(p_ st fo ed cl mo mp nw mk).setIfInBounds 7 Oh=p_ st fo ed cl mo mp nw Oh:=rfl
theorem abo(st:Int)(fo:Value)(ed:Bool)(cl:Value)(mo:Int)(mp:Nat)(nw nw' mk:Value):(p_ st fo ed cl mo mp nw mk).setIfInBounds 6 nw'=p_ st fo ed cl mo mp nw' mk:=rfl
theorem akQ(M:List Int)(v:Int):cQ (M++[v])=cQ M++[GW v]:=by unfold cQ;simp
theorem akR(M:List Int)(k:Nat):(cQ M).take k=cQ (M.take k):=by unfold cQ;rw[List.map_take]
theorem akO(M:List Int)(k:Nat)(v:Int):(cQ M).set k (GW v)=cQ (M.set k v):=by unfold cQ;rw[Fj]
theorem fM.push{x:im}(h:fM w eb g x p s M mv)(k0:aa ai w W)(bC:w7.ownsRow 0 3 1 fK (M.length+1) (cQ M++[GW v]))(dM:W.grownBy w7 mv.ownBlock)(cI:fK.ownBlock=mv.ownBlock\/fK.ownBlock=some W.heap.size):
 fM (w7.setCell (GB eb 7) fK) eb g x p s (M++[v]) fK/\aa (dG eb g x mv) w (w7.setCell (GB eb 7) fK):=by
 have k7:aa (fun i=>i=eb\/mv.ownBlock=some i) w w7:=(k0.mono (fun _ hx=>hx.elim)).eP dM (fun j hj=>Or.inl (Or.inr hj));have kS:=k7.setCell (p:=(GB eb 7)) (Or.inl (Or.inl rfl)) fK;have Ij:aa (fun i=>mv.ownBlock=some i) w w7:=(k0.mono (fun _ hx=>hx.elim)).eP dM (fun j hj=>Or.inl hj);have aB:¬mv.ownBlock=some eb:=fun hx=>(h.nf eb hx).1.1 rfl
 have hB:=(h.aq.kept Ij aB).setCell 7 fK;rw[QA]at hB;have hle:=h.aq.lt;have aW:=k0.size
 have hl:∀i,fK.ownBlock=some i->mv.ownBlock=some i\/w.heap.size<=i:=fun i hi=>by
  rcases cI with e|e
  ·exact Or.inl (by rw[<-e];exact hi)
  ·rw[e]at hi;cases hi;exact Or.inr aW
 refine⟨h.lr kS (fun i hi=>hi) hB ?_ h.rz hl,kS.mono (fun i hi=>by rcases hi with e|e;exact Or.inl e;exact Or.inr (Or.inr (Or.inr (Or.inr (Or.inr (Or.inr e))))))⟩;rw[akQ,Aj];refine bU bC ((aa.refl (fun i=>i=eb) w7).setCell (p:=(GB eb 7)) (Or.inl rfl) fK) (fun i hi hx=>?_);rcases hl i hi with e|e
 ·rw[hx]at e;exact aB e
 ·omega
theorem fM.put{gb:Nat}{x:im}(h:fM w eb g x p s M (.slice (some (GB gb 0)) n c)):fM (w.setCell (GB gb k) (GW v)) eb g x p s (M.set k v) (.slice (some (GB gb 0)) n c)/\aa (dG eb g x (.slice (some (GB gb 0)) n c)) w (w.setCell (GB gb k) (GW v)):=by
 have hn:n=M.length:=by
  obtain⟨ao,c',e⟩:=cw h.row;simp only[A9]at e;exact e.2.1
 subst hn;have kD:(Value.slice (some (GB gb 0)) M.length c).ownBlock=some gb:=rfl;have kS:aa (fun i=>i=gb) w (w.setCell (GB gb k) (GW v)):=(aa.refl (fun i=>i=gb) w).setCell (p:=(GB gb k)) (Or.inl rfl) _;have hr:=zK h.row k (GW v);rw[akO]at hr;refine⟨h.lr kS (fun i hi=>Or.inr (by rw[hi];exact kD)) (h.aq.kept kS (fun hx=>(h.nf gb kD).1.1 hx.symm)) ?_ h.rz (fun i hi=>Or.inl hi),kS.mono (fun i hi=>by rw[hi];unfold dG;simp[kD])⟩;rw[Bp];exact hr
theorem fM.ah2{x:im}(h:fM w eb g x p s M (.slice ao n c))(hk:k<=n):fM (w.setCell (GB eb 7) (.slice ao k c)) eb g x p s (M.take k) (.slice ao k c)/\aa (dG eb g x (.slice ao n c)) w (w.setCell (GB eb 7) (.slice ao k c)):=by
 have hn:n=M.length:=by
  obtain⟨jl,c',e⟩:=cw h.row;simp only[A9]at e;exact e.2.1
 subst hn;have kD:(Value.slice ao k c).ownBlock=(Value.slice ao M.length c).ownBlock:=by cases ao<;>rfl
 have kS:aa (fun i=>i=eb) w (w.setCell (GB eb 7) (.slice ao k c)):=(aa.refl (fun i=>i=eb) w).setCell (p:=(GB eb 7)) (Or.inl rfl) _;have hr:=amH h.row hk;rw[akR]at hr;have hB:=h.aq.setCell 7 (.slice ao k c);rw[QA]at hB;refine⟨h.lr kS (fun i hi=>Or.inl hi) hB ?_ h.rz (fun i hi=>Or.inl (by rw[<-kD];exact hi)),kS.mono (fun i hi=>Or.inl hi)⟩;rw[Cv,En hk];exact bU hr kS (fun i hi hx=>(h.nf i (by rw[<-kD];exact hi)).1.1 hx)
theorem fM.ai0{x:im}(h:fM w eb g x p s M mv)(hN:x.t.T p'=some s'):fM (w.setCell (GB eb 6) (BT p' 0)) eb g x p' s' M mv/\aa (dG eb g x mv) w (w.setCell (GB eb 6) (BT p' 0)):=by
 have kS:aa (fun i=>i=eb) w (w.setCell (GB eb 6) (BT p' 0)):=(aa.refl (fun i=>i=eb) w).setCell (p:=(GB eb 6)) (Or.inl rfl) _;have hB:=h.aq.setCell 6 (BT p' 0);rw[abo]at hB;exact⟨h.lr kS (fun i hi=>Or.inl hi) hB (bU h.row kS (fun i hi hx=>(h.nf i hi).1.1 hx)) hN (fun i hi=>Or.inl hi),kS.mono (fun i hi=>Or.inl hi)⟩
def im.to0(x:im)(t':TG):im:={x with t:=t'}
theorem xm.to0{x:im}(h:xm g x)(t':TG):xm g (x.to0 t'):=⟨h.ok,h.ms,h.st,h.mo,h.AU,h.bN,h.cls⟩
theorem fM.XY{x:im}{D':DataW Unit}(h:fM w eb g x p s M mv)(k:aa K w w')(hK:∀i,K i->x.t.B i\/i=x.mp\/i=g.fb\/i=g.sb\/i=g.bb)(hle:x.t.le t')(hT:iV w' x.m t')(hM:lU w' x.mp x.mo t'.T D')(hI:jh w' g)(nU:∀i,t'.B i->x.t.B i\/w.heap.size<=i):
 fM w' eb g (x.to0 t') p s M mv/\aa (dG eb g x mv) w w':=by
 have f1:=h.ic (i:=eb) (Or.inl rfl);have f2:=h.ic (i:=x.mp) (Or.inr (Or.inr (Or.inl rfl)));have f3:=h.ic (i:=g.fb) (by unfold dG;simp);have f4:=h.ic (i:=g.sb) (by unfold dG;simp);have f5:=h.ic (i:=g.bb) (by unfold dG;simp)
 have nB:∀i,i<w.heap.size->¬x.t.B i->¬t'.B i:=fun i h1 h2 hx=>by
  rcases nU i hx with e|e
  ·exact h2 e
  ·omega
 refine⟨⟨h.aq.kept k (fun hx=>?_),bU h.row k (fun i hi hx=>?_),⟨D',hM⟩,hT,hle.T _ _ h.rz,hI,h.cls.kept k (fun aB hx=>?_),⟨h.ap.em,h.ap.ef,h.ap.mf,h.ap.mm,nB _ f1 h.ap.eB,nB _ f2 h.ap.mB,nB _ f3 h.ap.fB.1,nB _ f4 h.ap.fB.2.1,nB _ f5 h.ap.fB.2.2⟩,⟨h.vD.1,fun i hi hx=>?_⟩,Ar h.lt k.size,fun i hi=>?_,fun aB hx=>?_⟩,k.mono (fun i hi=>?_)⟩
 ·have a1:=h.ap.em;have a2:=h.ap.ef;rcases hK _ hx with e|e|e|e|e
  ·exact h.ap.eB e
  ·exact a1 e
  ·exact a2.1 e
  ·exact a2.2.1 e
  ·exact a2.2.2 e
 ·have a:=(h.nf i hi).1;rcases hK _ hx with e|e|e|e|e
  ·exact a.2.1 e
  ·exact a.2.2.1 e
  ·exact a.2.2.2.1 e
  ·exact a.2.2.2.2.1 e
  ·exact a.2.2.2.2.2 e
 ·refine h.cb aB ?_;unfold dG;rcases hK _ hx with e|e|e|e|e<;>simp[e]
 ·rcases nU i hi with e|e
  ·exact h.vD.2 i e hx
  ·have:=uQ h.fO hx;omega
 ·have a:=h.nf i hi;exact⟨⟨a.1.1,nB _ (dw h.row hi).2 a.1.2.1,a.1.2.2.1,a.1.2.2.2.1,a.1.2.2.2.2.1,a.1.2.2.2.2.2⟩,a.2⟩
 ·have hc:=(h.cls.at_ aB).2;rcases hx with hx|hx|hx|hx|hx|hx|hx
  ·exact h.cb aB (Or.inl hx)
  ·rcases nU _ hx with e|e
   ·exact h.cb aB (Or.inr (Or.inl e))
   ·have e2:w.heap.size<=x.cb:=e;omega
  ·exact h.cb aB (Or.inr (Or.inr (Or.inl hx)))
  ·exact h.cb aB (by unfold dG;simp only[im.to0]at hx;simp[hx])
  ·exact h.cb aB (by unfold dG;simp only[im.to0]at hx;simp[hx])
  ·exact h.cb aB (by unfold dG;simp only[im.to0]at hx;simp[hx])
  ·exact h.cb aB (Or.inr (Or.inr (Or.inr (Or.inr (Or.inr (Or.inr hx))))))
 ·unfold dG;rcases hK _ hi with e|e|e|e|e<;>simp[e]
theorem U_(ms:List MS)(ah bh:Int):∀(d:Nat) (u st:Int) (f:FS),oW n f->oW n (gH ms ah bh d u st f).1
 |0,_,_,_,h=>h
 |d+1,u,st,f,h=>by
  have IH:=fun(u st:Int) (f:FS) (h:oW n f)=>U_ ms ah bh d u st f h
  have hM:oW n ⟨f.seen.set u.toNat true,f.dO,f.next⟩:=h;unfold gH;split
  ·exact h
  ·split
   ·exact h
   ·split
    ·exact h
    ·split
     ·exact afJ hM
     ·split
      ·split
       ·exact IH _ _ _ hM
       ·exact hM
      ·split
       ·exact IH _ _ _ hM
       ·split
        ·exact IH _ _ _ hM
        ·exact IH _ _ _ (IH _ _ _ hM)
theorem afy(ms:List MS)(ah bh:Int):∀(l:List bJ) (f:FS),oW n f->oW n (je ms ah bh l f).1
 | [],f,h=>h
 |t::ts,f,h=>by
  unfold je;split
  ·exact U_ ms ah bh _ _ _ _ h
  ·exact afy ms ah bh ts _ (U_ ms ah bh _ _ _ _ h)
theorem afv(ms:List MS)(ah bh:Int)(l:List bJ):(bc ms ah bh l).1.length<=ms.length:=by
 have h0:oW ms.length (FS.new ms.length):=by
  unfold oW FS.new;simp only[Bf,Ba];exact Bh Fi (by simp)
 have:=afy ms ah bh l _ h0;unfold oW at this;unfold bc;simp only;omega
structure LV(w:World)(eb:Nat)(g:FG)(x:im)(s:dC)(M:List Int)(mv:Value)(place bh:Int)(e:Ending)(w':World):Prop where
 ex:∃(t':TG) (p':Nat) (fK:Value),e=.returned (.tuple #[GW (((x.m.o bh s).2.2.map (gL (mK s M place))).getD 0),.bool (x.m.o bh s).2.2.isSome])/\fM w' eb g (x.to0 t') p' (x.m.o bh s).1 ((x.m.o bh s).2.1.map (gL (mK s M place))) fK/\cH (dG eb g x mv) (dG eb g (x.to0 t') fK) w w'
theorem LV.drew{x:im}(h:LV w eb g x s M mv place bh e w'):LV w eb g x s M mv place bh e w'.drew:=by
 obtain⟨t',p',fK,h1,h2,h3⟩:=h.ex;exact⟨t',p',fK,h1,h2.new (aa.refl _ _).drew,h3.new (aa.refl _ _).drew⟩
theorem dG.dt{x:im}(k:aa (dG eb g x mv) w w')(hB:∀i,t'.B i->x.t.B i\/w.heap.size<=i)(hl:∀i,fK.ownBlock=some i->mv.ownBlock=some i\/w.heap.size<=i):cH (dG eb g x mv) (dG eb g (x.to0 t') fK) w w':=by
 refine⟨k,fun i hi=>?_⟩;rcases hi with hi|hi|hi|hi|hi|hi|hi
 ·exact Or.inl (Or.inl hi)
 ·rcases hB i hi with e|e
  ·exact Or.inl (Or.inr (Or.inl e))
  ·exact Or.inr e
 ·exact Or.inl (Or.inr (Or.inr (Or.inl hi)))
 ·exact Or.inl (by unfold dG;simp[hi])
 ·exact Or.inl (by unfold dG;simp[hi])
 ·exact Or.inl (by unfold dG;simp[hi])
 ·rcases hl i hi with e|e
  ·exact Or.inl (by unfold dG;simp[e])
  ·exact Or.inr e
theorem aly(s:dC)(M:List Int)(v:Int):(mK s M v).length=M.length+(if s.mt then 0 else 1):=by
 unfold mK
 cases s.mt<;>simp
def tG(aN M:List Int)(k:Nat):List Int:=(aN.take k).map (gL M)++M.drop k
theorem alS(aN M:List Int):tG aN M 0=M:=by simp[tG]
theorem alR(hk:k<aN.length)(hM:aN.length<=M.length):(tG aN M k).set k (gL M aN[k])=tG aN M (k+1):=by
 unfold tG;rw[Em _ _ (by simp;omega),Ck hk,Ca,Ch,Gg,Bu];congr 1;have hl:((aN.take k).map (gL M)).length=k:=by simp;omega
 rw[hl,Gf,Bw (show k<M.length by omega)];rfl
theorem ady{j:Nat}(hk:k<=j)(hkh:k<=aN.length)(hj:j<M.length):(tG aN M k)[j]? =some (gL M (j:Int)):=by
 unfold tG;have hl:((aN.take k).map (gL M)).length=k:=by simp;omega
 rw[Br (by omega),hl,Dq,show k+(j-k)=j by omega];unfold gL;rw[Az,Af,Ae hj];rfl
theorem XL(hk:k<=aN.length)(hM:k<=M.length):(tG aN M k).length=M.length:=by
 unfold tG;simp;omega
theorem alQ:(tG aN M aN.length).take aN.length=aN.map (gL M):=by
 unfold tG;rw[Bj,List.take_append_of_le_length (by simp)];rw[Bz (by simp)]
def StO(w:World)(eb:Nat)(g:FG)(x:im)(p:Nat)(s:dC)(M:List Int)(mv:Value)(bh:Int)(e:Ending)(w':World):Prop:=∃(q:Nat) (t':TG) (tq:Nat) (hv:Value),e=.returned (BT q 0)/\fM w' eb g (x.to0 t') p s M mv/\au w' q #[BT tq 0,hv,GW ((x.m.o bh s).2.2.getD (-1))] 317/\t'.T tq=some (x.m.o bh s).1/\w'.ownsRow 0 3 1 hv (x.m.o bh s).2.1.length (cQ (x.m.o bh s).2.1)/\(∀i,hv.ownBlock=some i->t'.B i)/\cH (dG eb g x mv) (dG eb g (x.to0 t') mv) w w'
theorem akZ{x:im}(hO:xm g x)(hb:0<=bh/\bh<=1114111)(h:fM w eb g x p s M mv)(dc:M.length=jv s.aX):
 Calls prog 233 #[BT eb 0,GW place,.int .i32 bh] w (LV w eb g x s M mv place bh):=by
 obtain⟨ao,mc,rfl⟩:=cw h.row;obtain⟨ii,CM,NN,H5,oC⟩:=Bo Tryz.Xi;have CB:=h.nu.ok p s h.rz;have hMl:M.length<=5000:=by have:=CB.1.U6;have:=CB.1.bN;have:=hO.ok.bN;have e:=congrArg List.length hO.ms.1;omega
 obtain⟨cs0,as0,S8,e1,_,_⟩:=(h.nu.st p s h.rz).ex;obtain⟨mt,iQ⟩:∃mt,s.mt=mt:=⟨_,rfl⟩
 have c2:w.cell? (GB p 2)=some (.bool mt):=by rw[<-iQ];exact e1.cell 2
 have c6:w.cell? (GB eb 6)=some (BT p 0):=h.aq.cell 6;have c7:w.cell? (GB eb 7)=some (.slice ao M.length mc):=h.aq.cell 7;have f7:w.frozen? (GB eb 7)=false:=h.aq.frozen 7;have ajv:=h.aq.lt;have HH:=ab h;have HO:=ab hO;have vg:=ab iQ;have rI:=ab dc;clear h hO e1 iQ dc CB;go_in;go_upto_if 18 with fail
 go_cut [6] (fun v6 wx=>v6=GW 0/\∃XK,Hid (fM wx eb g x p s (mK s M place) XK)/\Hid (cH (dG eb g x (.slice ao M.length mc)) (dG eb g x XK) w wx))
 case first=>
  cases mt with
  |true=>
   have aA:Hid (fM w eb g x p s (mK s M place) (.slice ao M.length mc)):=by
    have e:mK s M place=M:=by unfold mK;rw[if_pos vg.o]
    show fM _ _ _ _ _ _ _ _
    rw[e];exact HH.o
   clear HH HO vg rI;go_wp2_with fail;go_meet
   case rel=>exact⟨rfl,_,aA,cH.refl _ _⟩
  |false=>
   have ik:=ab HH.o.row
   have aA:Hid (∀(W w7:World) (fK:Value),aa ai w W->w7.ownsRow 0 3 1 fK (M.length+1) (cQ M++[GW place])->W.grownBy w7 (Value.slice ao M.length mc).ownBlock->(fK.ownBlock=(Value.slice ao M.length mc).ownBlock\/fK.ownBlock=some W.heap.size)->(w7.cell? (GB eb 7)=some (.slice ao M.length mc)/\w7.frozen? (GB eb 7)=false)/\fM (w7.setCell (GB eb 7) fK) eb g x p s (mK s M place) fK/\cH (dG eb g x (.slice ao M.length mc)) (dG eb g x fK) w (w7.setCell (GB eb 7) fK)):=fun W w7 fK k0 ho nT hl=>by
    have e:mK s M place=M++[place]:=by unfold mK;rw[if_neg (by rw[vg.o];simp)]
    have:=HH.o.push k0 ho nT hl;have Ij:aa (fun i=>(Value.slice ao M.length mc).ownBlock=some i) w w7:=(k0.mono (fun _ hx=>hx.elim)).eP nT (fun j hj=>Or.inl hj);have hB:=HH.o.aq.kept Ij (fun hx=>(HH.o.nf eb hx).1.1 rfl);rw[e];refine⟨⟨hB.cell 7,hB.frozen 7⟩,this.1,dG.dt (t':=x.t) this.2 (fun i hi=>Or.inl hi) (fun i hi=>?_)⟩;rcases hl with e|e
    ·exact Or.inl (by rw[<-e];exact hi)
    ·rw[e]at hi;cases hi;exact Or.inr k0.size
   clear HH HO vg rI;go_wp2_with (at_builtin;refine Ao _ rfl _ _ 22 rfl 0 3 ii _ 1 8 underlying22 CM NN H5 oC rfl (by decide) _ _ _ rfl (ik.o.alloc _) (GB w.heap.size 0) 1 1 [GW place] rfl rfl ?c1 ?c2 ?c3 ?c4 ?c5 ?_)
   case c1=>exact Is _ _
   case c2=>exact wv _
   case c3=>unfold maxLen;omega
   case c4=>omega
   case c5=>simp
   intro v' w7 bL cy eF cI;obtain⟨jl,c',rfl⟩:=cw bL;obtain⟨⟨p1,p2⟩,p3,p4⟩:=aA.o _ _ _ ((aa.refl _ _).alloc _) bL cy (by rw[fP];exact cI);have F1:=ab p3;have F2:=ab p4;clear bL cy eF cI p3 p4 aA ik;go_wp2_with fail;go_meet
   case rel=>exact⟨rfl,_,F1,F2⟩
 case rest=>
  obtain⟨rfl,XK,HM,ZL⟩:=hcut;clear c2 c6 c7 f7;obtain⟨M1,iW⟩:∃M1,M1=mK s M place:=⟨_,rfl⟩
  rw[<-iW]at HM;obtain⟨a1,c1,mI⟩:=cw HM.o.row;subst mI;have pD:M1.length=jv s.aX+(if s.mt then 0 else 1):=by rw[iW,aly,rI.o]
  have Rk:M1.length<=6000:=by have:=rI.o;split at pD<;>omega
  have T3:=ab pD;have sK:=ab iW
  have F:Hid (Calls prog 234 #[BT eb 0,.int .i32 bh] wc (StO wc eb g x p s M1 (.slice a1 M1.length c1) bh)):=by
   obtain⟨D,hD⟩:=HM.o.map;have h:=HM.o;have o:=HO.o;refine(ao1 o.ok o.ms o.st hb h.aq pD o.mo h.lt hD h.nu h.rz h.fO h.ap h.cls o.AU o.bN h.vD.2).mono ?_;rintro e w2 ⟨⟨q,t',D',rfl,h1,h2,h3,h4,h5⟩,h6,h7⟩;obtain⟨i1,i2⟩:=h.XY h7 (fun i hi=>hi) h1 h2 h3 h6 h5;obtain⟨tq,hv,b1,b2,b3,b4⟩:=h4.at o.cls hb rfl;exact⟨q,t',tq,hv,rfl,i1,b1,b2,b3,b4,dG.dt i2 h5 (fun i hi=>Or.inl hi)⟩
  obtain⟨O,VJ⟩:∃O,O=x.m.o bh s:=⟨_,rfl⟩
  have IZ:=ab VJ
  have vv:Hid (O.2.1.Pairwise (· < ·)/\(∀j∈O.2.1,0<=j/\j<(M1.length:Int))/\∀j,O.2.2=some j->0<=j/\j<(M1.length:Int)):=by
   have dB:=(HM.o.nu.ok p s HM.o.rz).1;have e:=HO.o.ms.1;have hf:(bc x.m.ms s.ah bh (dF x.m.st s)).1.length<=x.m.ms.length:=afv _ _ _ _;have hx:∀t∈ (bc x.m.ms s.ah bh (dF x.m.st s)).1,0<=t.1/\t.1<x.m.ms.length:=(SX (by rw[e];exact HO.o.ok.fJ) _ _ _);obtain⟨_,_,r3,r4,r5⟩:=XW (j9:=jR x.m.ms bh) (by rw[e];exact HO.o.ok.fJ) dB hx hf
   have hn:((jv s.aX:Int)+(if s.mt then 0 else 1))=(M1.length:Int):=by rw[pD];cases s.mt<;>simp
   rw[VJ];rw[hn]at r4 r5;exact⟨r3,r4,r5⟩
  clear VJ iW pD HM;go_wp2_with fail;refine(F.o).mono ?_;rintro e w2 ⟨q,t',tq,hv,rfl,i1,b1,b2,b3,b4,gn⟩;rw[<-IZ.o]at b1 b2 b3;have vf:=ab i1;have gF:=ab b1;have iK:=ab b2;have sJ:=ab b3;have jU:=ab b4;have od:=ab (ZL.o.trans gn);obtain⟨ha,hc,RL⟩:=cw b3;subst RL;have q1:w2.cell? (GB q 1)=some (.slice ha O.2.1.length hc):=b1.cell 1;have q2:w2.cell? (GB q 2)=some (GW (O.2.2.getD (-1))):=b1.cell 2;have e7:w2.cell? (GB eb 7)=some (.slice a1 M1.length c1):=i1.aq.cell 7;clear F i1 b1 b2 b3 b4 gn ZL;obtain⟨dv,Wa⟩:∃dv,O.2.2.getD (-1)=dv:=⟨_,rfl⟩
  rw[Wa]at q2;have Lc:=ab Wa;clear Wa;go_upto_if 36 with fail
  go_cut [6,7] (fun v6 v7 wx=>v6=GW ((O.2.2.map (gL M1)).getD 0)/\v7=.bool O.2.2.isSome/\Hid (aa ai w2 wx))
  case first=>
   obtain⟨o2,GF⟩:∃o2,O.2.2=o2:=⟨_,rfl⟩
   cases o2 with
   |none=>
    have ed:dv= -1:=by rw[<-Lc.o,GF];rfl
    subst ed;clear vf gF iK sJ jU od Lc vv HO HH rI vg IZ T3 sK;have KY:=ab GF;clear GF;go_wp2_with fail;go_meet
    case rel=>exact⟨by rw[KY.o];rfl,by rw[KY.o];rfl,aa.refl _ _⟩
   |some d=>
    have ed:dv=d:=by rw[<-Lc.o,GF];rfl
    subst ed;obtain⟨G6,th⟩:=vv.o.2.2 dv GF;obtain⟨k,rfl⟩:=Au G6;obtain⟨gb,cc,e1,_,xH,_,M9,_⟩:=mO vf.o.row (by omega);obtain⟨eA,eC⟩:a1=some (GB gb 0)/\c1=cc:=by simpa using e1
    subst eA eC;obtain⟨mk,qV⟩:∃mk,mk=gL M1 (k:Int):=⟨_,rfl⟩
    have ck:w2.cell? (GB gb k)=some (GW mk):=by
     rw[M9 k (by omega),qV];have mE:k<M1.length:=(by omega);unfold cQ gL;simp[mE]
    have HMK:=ab qV;have uA:(k:Int)<(M1.length:Int):=th;have aU:((k:Int)== -1)=false:=(by simp<;>omega);have aS:((k:Int) != -1)=true:=(by simp<;>omega);clear vf gF iK sJ jU od Lc vv HO HH rI vg IZ T3 sK e1 M9 qV;have KY:=ab GF;clear GF;go_wp2_with fail;go_quiet (fail);go_wp2_with fail;go_meet
    case rel=>exact⟨by rw[KY.o,HMK.o];rfl,by rw[KY.o];rfl,(aa.refl _ _).drewN _⟩
  case rest=>
   obtain⟨rfl,rfl,iL⟩:=hcut;obtain⟨wd,qm⟩:∃wd,wd=wc:=⟨_,rfl⟩
   rw[<-qm]at iL⊢;clear qm q1 q2 e7;have yy:=ab (vf.o.new iL.o);have xk:=ab (bU sJ.o iL.o (fun _ _ hx=>hx));have IU:=ab (gF.o.kept iL.o (fun hx=>hx));have q0:wd.cell? (GB q 0)=some (BT tq 0):=IU.o.cell 0;have q1:wd.cell? (GB q 1)=some (.slice ha O.2.1.length hc):=IU.o.cell 1;have EI:=ab (od.o.new iL.o);have Z1:=ab yy.o.aq;have T8:Hid (¬(Value.slice a1 M1.length c1).ownBlock=some q):=(fun hx=>Ma IU.o yy.o.row (by decide) hx);obtain⟨aN,qU⟩:∃aN,aN=O.2.1:=⟨_,rfl⟩
   rw[<-qU]at q1 xk vv jU;have ZM:=ab qU;clear vf sJ gF od qU
   have Re:aN.length<=M1.length:=by
    by_cases e:aN=[]
    ·rw[e];exact Al _
    ·have h1:=aeY vv.o.1 (fun y hy=>(vv.o.2.1 y hy).1) (aN.length-1) (by have:=Bt.2 e;omega);have h2:=(vv.o.2.1 _ (A6 (show aN.length-1<aN.length by have:=Bt.2 e;omega))).2;have:=Bt.2 e;omega
   go_wp2_with fail
   go_loopg [52] aN.length (fun kk v52 wr=>∃k:Nat,v52=GW (k:Int)/\k<=aN.length/\kk=aN.length-k/\Hid (fM wr eb g (x.to0 t') p s (tG aN M1 k) (.slice a1 M1.length c1))/\Hid (aa (fun i=>(Value.slice a1 M1.length c1).ownBlock=some i) wd wr))
   case atStart=>exact⟨0,rfl,Al _,rfl,by rw[alS];exact yy,aa.refl _ _⟩
   case round=>
    obtain⟨k,rfl,hk,eE,xh,EJ⟩:=hrel;clear yy;by_cases az:k<aN.length
    ·have hit:(k:Int)<(aN.length:Int):=(by omega);obtain⟨vY,jD,e1,_,xH,_,M9,_⟩:=mO xk.o (by omega);obtain⟨eA,eC⟩:ha=some (GB vY 0)/\hc=jD:=by simpa using e1
     subst eA eC;obtain⟨gb,mcc,e2,_,aqz,_,Rc,ack⟩:=mO xh.o.row (by rw[XL hk (by omega)];omega);rw[XL hk (by omega)]at e2 Rc;obtain⟨eA,eC⟩:a1=some (GB gb 0)/\c1=mcc:=by simpa using e2
     subst eA eC;obtain⟨Wm,r_⟩:=vv.o.2.1 _ (A6 az);have hjk:=aeY vv.o.1 (fun y hy=>(vv.o.2.1 y hy).1) k az;obtain⟨j,hj⟩:=Au Wm;have hjM:j<M1.length:=(by omega);have ajN:k<=j:=(by omega);have aB:vY≠gb:=fun e=>(xh.o.nf gb rfl).1.2.1 (by rw[<-e];exact jU.o vY rfl)
     have ch:wr.cell? (GB vY k)=some (GW (j:Int)):=by
      refine(EJ.o.cell (p:=(GB vY k)) xH (fun hx=>aB (by simpa[Value.ownBlock]using hx.symm))).trans ?_;rw[M9 k az];unfold cQ;simp[az,hj]
     obtain⟨mk,qV⟩:∃mk,mk=gL M1 (j:Int):=⟨_,rfl⟩
     have cj:wr.cell? (GB gb j)=some (GW mk):=by
      rw[Rc j (by omega),qV];unfold cQ;rw[Cb,ady ajN hk hjM];rfl
     have ckx:∃u,wr.cell? (GB gb k)=some u:=by
      rw[Rc k (by omega)];unfold cQ;rw[Cb,ady (Ab k) hk (by omega)];exact⟨_,rfl⟩
     obtain⟨uk,ck⟩:=ckx;have fk:wr.frozen? (GB gb k)=false:=ack k;have e7:wr.cell? (GB eb 7)=some (.slice (some (GB gb 0)) M1.length c1):=xh.o.aq.cell 7;have mD:(j:Int)<(M1.length:Int):=(by omega);have uA:(k:Int)<(M1.length:Int):=by omega
     have NX:Hid (fM (wr.setCell (GB gb k) (GW mk)) eb g (x.to0 t') p s (tG aN M1 (k+1)) (.slice (some (GB gb 0)) M1.length c1)/\aa (fun i=>(Value.slice (some (GB gb 0)) M1.length c1).ownBlock=some i) wd (wr.setCell (GB gb k) (GW mk))):=by
      have:=(xh.o.put (k:=k) (v:=mk)).1;rw[qV,<-hj,alR az Re]at this;rw[qV,<-hj];exact⟨this,EJ.o.setCell (p:=(GB gb k)) (Or.inl rfl) _⟩
     clear xh EJ M9 Rc ack e1 e2 qV hj;go_wp2_with fail;go_region;go_wp2_with fail;go_roundg (aN.length-(k+1))
     case measure=>omega
     case rel=>exact⟨k+1,by simp,by omega,rfl,NX.o.1.new ((aa.refl _ _).drew),NX.o.2.drew⟩
    ·have JN:k=aN.length:=(by omega);subst JN;have hit:¬((aN.length:Int)<(aN.length:Int)):=(by omega);have ajb:=XL (Ab aN.length) Re;have HC:=xh.o.ah2 (k:=aN.length) Re;rw[alQ]at HC;have HT:(x.to0 t').t.T tq=some O.1:=iK.o;have HN:=HC.1.ai0 HT;have e7:wr.cell? (GB eb 7)=some (.slice a1 M1.length c1):=xh.o.aq.cell 7;have f7:wr.frozen? (GB eb 7)=false:=xh.o.aq.frozen 7;have e6:(wr.setCell (GB eb 7) (.slice a1 aN.length c1)).cell? (GB eb 6)=some (BT p 0):=HC.1.aq.cell 6;have f6:(wr.setCell (GB eb 7) (.slice a1 aN.length c1)).frozen? (GB eb 6)=false:=HC.1.aq.frozen 6;have qY:q≠eb:=L_ IU.o Z1.o (by decide);have RE:q<wd.heap.size:=IU.o.lt;have q1':wr.cell? (GB q 1)=some (.slice ha aN.length hc):=(EJ.o.cell (p:=(GB q 1)) RE T8.o).trans q1
     have q0':(wr.setCell (GB eb 7) (.slice a1 aN.length c1)).cell? (GB q 0)=some (BT tq 0):=by
      rw[World.cell?_setCell_far _ _ _ _ (by exact fun e=>qY e.symm)];exact(EJ.o.cell (p:=(GB q 0)) RE T8.o).trans q0
     have hMI:(aN.length:Int)<=(M1.length:Int):=by omega
     have y_:M1.length<=c1/\(a1=none->M1.length=0/\c1=0):=by
      have hr:=xh.o.row;rcases hr.2 with⟨h1,h2⟩|⟨_,cap,_,h1,_,_,h4,_⟩
      ·simp only[A9]at h1;exact⟨by omega,fun _=>⟨h1.2.1,h1.2.2⟩⟩
      ·simp only[A9]at h1;refine⟨by omega,fun e=>?_⟩;rw[e]at h1
       cases h1.1
     have KF:=(EJ.o.mono (fun i hi=>(by unfold dG;simp[hi]:dG eb g (x.to0 t') (.slice a1 M1.length c1) i))).trans (HC.2.trans (HN.2.mono (fun i hi=>by
      rcases hi with hi|hi|hi|hi|hi|hi|hi
      ·exact Or.inl hi
      ·exact Or.inr (Or.inl hi)
      ·exact Or.inr (Or.inr (Or.inl hi))
      ·exact Or.inr (Or.inr (Or.inr (Or.inl hi)))
      ·exact Or.inr (Or.inr (Or.inr (Or.inr (Or.inl hi))))
      ·exact Or.inr (Or.inr (Or.inr (Or.inr (Or.inr (Or.inl hi)))))
      ·exact Or.inr (Or.inr (Or.inr (Or.inr (Or.inr (Or.inr (by cases a1<;>exact hi)))))))))
     have aA:Hid (LV w eb g x s M (.slice ao M.length mc) place bh (.returned (.tuple #[GW ((O.2.2.map (gL M1)).getD 0),.bool O.2.2.isSome])) ((wr.setCell (GB eb 7) (.slice a1 aN.length c1)).setCell (GB eb 6) (BT tq 0))):=by
      refine⟨t',tq,.slice a1 aN.length c1,by rw[IZ.o,sK.o],by rw[<-IZ.o,<-sK.o,<-ZM.o];exact HN.1,EI.o.trans ⟨KF,fun i hi=>Or.inl ?_⟩⟩;rcases hi with hi|hi|hi|hi|hi|hi|hi
      ·exact Or.inl hi
      ·exact Or.inr (Or.inl hi)
      ·exact Or.inr (Or.inr (Or.inl hi))
      ·exact Or.inr (Or.inr (Or.inr (Or.inl hi)))
      ·exact Or.inr (Or.inr (Or.inr (Or.inr (Or.inl hi))))
      ·exact Or.inr (Or.inr (Or.inr (Or.inr (Or.inr (Or.inl hi)))))
      ·exact Or.inr (Or.inr (Or.inr (Or.inr (Or.inr (Or.inr (by cases a1<;>exact hi))))))
     clear HC HN xh EJ KF HT ajb IU Z1 vv xk iK jU EI T8 ZM IZ sK HO HH vg rI T3 iL Lc q0 q1
     cases a1 with
     |none=>
      obtain⟨h0,nQ⟩:=y_.2 rfl;have hh0:aN.length=0:=(by omega);rw[hh0]at*;rw[h0]at*;subst nQ;go_wp2_with fail;go_region;go_wp2_with fail;go_ret2;exact aA.o.drew
     |some ad=>
      have hcI:¬((c1:Int)<(aN.length:Int)):=(by omega);go_wp2_with fail;go_region;go_wp2_with fail;go_ret2;exact aA.o.drew
structure LL(w:World)(eb:Nat)(g:FG)(x:im)(nw:Value)(M:List Int)(mv:Value):Prop where
 aq:au w eb (p_ g.st (BT g.fb 0) (pz g.ms) (.slice x.ca x.m.cl.length x.cc) x.mo x.mp nw mv) 159
 row:w.ownsRow 0 3 1 mv M.length (cQ M)
 map:∃D,lU w x.mp x.mo x.t.T D
 nu:iV w x.m x.t
 fO:jh w g
 cls:AE w x.ca x.cb x.m.cl
 ap:KP g x.t eb x.mp
 vD:¬g.cP eb/\∀i,x.t.B i->¬g.cP i
 lt:x.mp<w.heap.size
 nf:∀i,mv.ownBlock=some i->(i≠eb/\¬x.t.B i/\i≠x.mp/\i≠g.fb/\i≠g.sb/\i≠g.bb)/\¬g.cP i
 cb:x.m.cl≠ []->¬dG eb g x mv x.cb
theorem fM.pre{x:im}(h:fM w eb g x p s M mv):LL w eb g x (BT p 0) M mv:=⟨h.aq,h.row,h.map,h.nu,h.fO,h.cls,h.ap,h.vD,h.lt,h.nf,h.cb⟩
def yj(ms:List MS)(c:Int):dC:=⟨[],jR ms c,false⟩
theorem afu(ms:List MS)(c:Int):(yj ms c).Ok ms:=⟨fun t ht=>(by cases ht),fun t ht=>(by cases ht),List.Pairwise.nil,Al _,Ab _⟩
theorem LL.dO{w2:World}{x:im}{s0:dC}(hO:xm g x)(h:LL w eb g x nw M (.slice ao n c))(h0:s0.aX=[]/\s0.Ok g.ms/\(s0.ah= -1\/s0.ah=119\/s0.ah=32))(P:yH (w.setCell (GB eb 7) (.slice ao 0 c)) x.mp x.mo x.t.T s0 (.slice none s0.aX.length 0) e w2):
 ∃(p':Nat) (t':TG),e=.returned (BT p' 0)/\((∃u,w2.cell? (GB eb 6)=some u)/\w2.frozen? (GB eb 6)=false)/\fM (w2.setCell (GB eb 6) (BT p' 0)) eb g (x.to0 t') p' s0 [] (.slice ao 0 c)/\cH (dG eb g x (.slice ao n c)) (dG eb g (x.to0 t') (.slice ao 0 c)) w (w2.setCell (GB eb 6) (BT p' 0)):=by
 obtain⟨⟨p',T',D',rfl,VL,uj,WJ⟩,hk⟩:=P
 have hn:n=M.length:=by
  obtain⟨jl,c',e⟩:=cw h.row;simp only[A9]at e;exact e.2.1
 subst hn;have kD:(Value.slice ao 0 c).ownBlock=(Value.slice ao M.length c).ownBlock:=by cases ao<;>rfl
 have sj:(w.setCell (GB eb 7) (.slice ao 0 c)).heap.size=w.heap.size:=by simp
 have k1:aa (fun i=>i=eb) w (w.setCell (GB eb 7) (.slice ao 0 c)):=(aa.refl (fun i=>i=eb) w).setCell (p:=(GB eb 7)) (Or.inl rfl) _;have B1:=h.aq.setCell 7 (.slice ao 0 c);rw[QA]at B1;have B2:=B1.kept hk h.ap.em;have B3:=B2.setCell 6 (BT p' 0);rw[abo]at B3;have k2:aa (fun i=>i=eb\/i=x.mp) w w2:=(k1.mono (fun i hi=>Or.inl hi)).trans (hk.mono (fun i hi=>Or.inr hi));have k3:aa (fun i=>i=eb\/i=x.mp) w (w2.setCell (GB eb 6) (BT p' 0)):=k2.setCell (p:=(GB eb 6)) (Or.inl (Or.inl rfl)) _;have k6:aa (fun i=>i=eb) w2 (w2.setCell (GB eb 6) (BT p' 0)):=(aa.refl (fun i=>i=eb) w2).setCell (p:=(GB eb 6)) (Or.inl rfl) _;have hr0:w.ownsRow 0 3 1 (.slice ao 0 c) ([]:List Int).length (cQ []):=X4 h.row
 have hr:(w2.setCell (GB eb 6) (BT p' 0)).ownsRow 0 3 1 (.slice ao 0 c) ([]:List Int).length (cQ []):=bU hr0 k3 (fun i hi hx=>by
  have:=(h.nf i (by rw[<-kD];exact hi)).1;rcases hx with hx|hx
  ·exact this.1 hx
  ·exact this.2.2.1 hx)
 have hKB:∀i,(i=eb\/i=x.mp)->¬x.t.B i:=fun i hx=>by
  rcases hx with hx|hx
  ·rw[hx];exact h.ap.eB
  ·rw[hx];exact h.ap.mB
 obtain⟨_,_,_,_,_,x1,⟨x2,_⟩,⟨x3,_⟩⟩:=h.fO.ex;have f1:=x1.lt;have f2:=x2.lt;have f3:=x3.lt;have f4:=h.aq.lt;have f5:=h.lt
 have hI:=h.fO.kept k3 (fun i hx=>by
  have a1:=h.ap.ef;have a2:=h.ap.mf;rcases hx with hx|hx
  ·rw[hx];exact⟨by omega,h.vD.1⟩
  ·rw[hx];exact⟨by omega,h.ap.mm⟩)
 have hC:=h.cls.kept k3 (fun aB hx=>by
  rcases hx with hx|hx
  ·exact h.cb aB (Or.inl hx)
  ·exact h.cb aB (Or.inr (Or.inr (Or.inl hx))))
 have KEY:∃t',x.t.le t'/\iV (w2.setCell (GB eb 6) (BT p' 0)) x.m t'/\t'.T=T'/\∀i,t'.B i->x.t.B i\/w.heap.size<=i:=by
  rcases WJ with rfl|⟨hp,hTT,hB⟩
  ·exact⟨x.t,TG.le.refl _,h.nu.kept k3 hKB,rfl,fun i hi=>Or.inl hi⟩
  ·rw[sj]at hp;have eF:(Value.slice none s0.aX.length 0)=.slice none 0 0:=by rw[h0.1];rfl
   have jb:=hB.kept k6 (by omega);refine⟨x.t.add p' s0 (.slice none s0.aX.length 0),TG.UA (h.nu.fresh (by omega)),h.nu.add (base:=0) k3 hKB (by omega) jb ?_ ⟨by rw[hO.ms.1];exact h0.2.1,h0.2.2⟩,hTT.symm,fun i hi=>?_⟩
   ·rw[h0.1];exact A8 _ _ _ _
   ·rcases hi with hi|hi|hi
    ·exact Or.inl hi
    ·exact Or.inr (by omega)
    ·rw[eF]at hi;cases hi
 obtain⟨t',hle,qQ,hTe,nU⟩:=KEY
 have nB:∀i,i<w.heap.size->¬x.t.B i->¬t'.B i:=fun i h1 h2 hx=>by
  rcases nU i hx with e|e
  ·exact h2 e
  ·omega
 refine⟨p',t',rfl,⟨⟨_,B2.cell 6⟩,B2.frozen 6⟩,⟨B3,hr,⟨D',by rw[show(x.to0 t').t.T=T' from hTe];exact uj.kept k6 (fun hx=>h.ap.em hx.symm)⟩,qQ,by rw[show(x.to0 t').t.T=T' from hTe];exact VL,hI,hC,⟨h.ap.em,h.ap.ef,h.ap.mf,h.ap.mm,nB _ f4 h.ap.eB,nB _ f5 h.ap.mB,nB _ f1 h.ap.fB.1,nB _ f2 h.ap.fB.2.1,nB _ f3 h.ap.fB.2.2⟩,⟨h.vD.1,fun i hi hx=>?_⟩,Ar h.lt k3.size,fun i hi=>?_,fun aB hx=>?_⟩,dG.dt (k3.mono (fun i hi=>?_)) nU (fun i hi=>Or.inl (by rw[<-kD];exact hi))⟩
 ·rcases nU i hi with e|e
  ·exact h.vD.2 i e hx
  ·have:=uQ h.fO hx;omega
 ·have hi':(Value.slice ao M.length c).ownBlock=some i:=by rw[<-kD];exact hi
  have a:=h.nf i hi';exact⟨⟨a.1.1,nB _ (dw h.row hi').2 a.1.2.1,a.1.2.2.1,a.1.2.2.2.1,a.1.2.2.2.2.1,a.1.2.2.2.2.2⟩,a.2⟩
 ·have hc:=(h.cls.at_ aB).2;rcases hx with hx|hx|hx|hx|hx|hx|hx
  ·exact h.cb aB (Or.inl hx)
  ·rcases nU _ hx with e|e
   ·exact h.cb aB (Or.inr (Or.inl e))
   ·have e2:w.heap.size<=x.cb:=e;omega
  ·exact h.cb aB (Or.inr (Or.inr (Or.inl hx)))
  ·exact h.cb aB (Or.inr (Or.inr (Or.inr (Or.inl hx))))
  ·exact h.cb aB (Or.inr (Or.inr (Or.inr (Or.inr (Or.inl hx)))))
  ·exact h.cb aB (Or.inr (Or.inr (Or.inr (Or.inr (Or.inr (Or.inl hx))))))
  ·exact h.cb aB (Or.inr (Or.inr (Or.inr (Or.inr (Or.inr (Or.inr (by rw[<-kD];exact hx)))))))
 ·rcases hi with hi|hi
  ·exact Or.inl hi
  ·exact Or.inr (Or.inr (Or.inl hi))
def Tv(w:World)(eb:Nat)(g:FG)(x:im)(mv:Value)(c:Int)(e:Ending)(w':World):Prop:=e=.returned (.tuple #[])/\∃(p':Nat) (t':TG) (fK:Value),fM w' eb g (x.to0 t') p' (yj g.ms c) [] fK/\cH (dG eb g x mv) (dG eb g (x.to0 t') fK) w w'
theorem ac5{x:im}{c:Int}(hO:xm g x)(h:LL w eb g x nw M mv):
 Calls prog 72 #[BT eb 0,.int .i32 c] w (Tv w eb g x mv c):=by
 obtain⟨ao,mc,rfl⟩:=cw h.row;obtain⟨D,hD⟩:=h.map;have k1:aa (fun i=>i=eb) w (w.setCell (GB eb 7) (.slice ao 0 mc)):=(aa.refl (fun i=>i=eb) w).setCell (p:=(GB eb 7)) (Or.inl rfl) _;have B1:=h.aq.setCell 7 (.slice ao 0 mc);rw[QA]at B1;have sj:(w.setCell (GB eb 7) (.slice ao 0 mc)).heap.size=w.heap.size:=by simp
 have F1:=ab (adb (c:=c) B1)
 have F2:Hid (Calls prog 101 #[BT eb 0,.agg #[.slice none 0 0,.int .i32 (jR g.ms c),.bool false,.slice none 0 0]] (w.setCell (GB eb 7) (.slice ao 0 mc)) (yH (w.setCell (GB eb 7) (.slice ao 0 mc)) x.mp x.mo x.t.T (yj g.ms c) (.slice none (yj g.ms c).aX.length 0))):=
  ac6 (ms:=g.ms) (tb:=0) (s:=yj g.ms c) B1 (hD.kept k1 (fun hx=>h.ap.em hx.symm)) (fun hx=>h.ap.em hx.symm) (by rw[sj];exact h.lt) hO.mo (by rw[<-hO.ms.1];exact h.nu.ok) (by rw[sj];exact h.nu.fresh (Ab _)) hO.ok.bN (afu _ _) (YB _ _) ⟨fun aB=>absurd rfl aB,fun k hk=>(by cases hk)⟩
 have c7:w.cell? (GB eb 7)=some (.slice ao M.length mc):=h.aq.cell 7;have f7:w.frozen? (GB eb 7)=false:=h.aq.frozen 7
 have y_:M.length<=mc/\(ao=none->M.length=0/\mc=0):=by
  rcases h.row.2 with⟨h1,h2⟩|⟨_,cap,_,h1,_,_,h4,_⟩
  ·simp only[A9]at h1;exact⟨by omega,fun _=>⟨h1.2.1,h1.2.2⟩⟩
  ·simp only[A9]at h1;refine⟨by omega,fun e=>?_⟩;rw[e]at h1
   cases h1.1
 have DX:Hid (∀e w2,yH (w.setCell (GB eb 7) (.slice ao 0 mc)) x.mp x.mo x.t.T (yj g.ms c) (.slice none (yj g.ms c).aX.length 0) e w2->∃p' u,e=.returned (BT p' 0)/\(w2.cell? (GB eb 6)=some u/\w2.frozen? (GB eb 6)=false)/\Tv w eb g x (.slice ao M.length mc) c (.returned (.tuple #[])) (w2.setCell (GB eb 6) (BT p' 0))):=fun e w2 P=>by
  obtain⟨p',t',rfl,⟨⟨u,hu⟩,hf⟩,h3,h4⟩:=h.dO hO ⟨rfl,afu _ _,YB _ _⟩ P;exact⟨p',u,rfl,⟨hu,hf⟩,rfl,p',t',_,h3,h4⟩
 clear h hO B1 k1 hD sj
 cases ao with
 |none=>
  obtain⟨h0,nQ⟩:=y_.2 rfl;rw[h0]at c7;subst nQ;clear y_;go_enter func72,ntmps72;go_wp2_with fail;refine(F1.o).mono ?_;rintro e w1 ⟨rfl,rfl⟩;go_wp2_with fail;refine(F2.o).mono ?_;intro e w2 P;obtain⟨p',u,rfl,⟨c6,f6⟩,FF⟩:=DX.o e w2 P;have EH:=ab FF;clear P FF F1 F2 DX c7 f7;go_wp2_with fail;go_end0;exact EH.o
 |some ad=>
  have hcI:¬((mc:Int)<0):=by omega
  clear y_;go_enter func72,ntmps72;go_wp2_with fail;refine(F1.o).mono ?_;rintro e w1 ⟨rfl,rfl⟩;go_wp2_with fail;refine(F2.o).mono ?_;intro e w2 P;obtain⟨p',u,rfl,⟨c6,f6⟩,FF⟩:=DX.o e w2 P;have EH:=ab FF;clear P FF F1 F2 DX c7 f7;go_wp2_with fail;go_end0;exact EH.o
theorem akW{x:im}(h:fM w eb g x p s M mv):Calls prog 231 #[BT eb 0] w fun e w'=>e=.returned (.tuple #[GW (M.headD 0),.bool (!M.isEmpty)])/\w'=w:=akX h.aq h.row
def sN(B:Nat)(ao:Option Addr)(n c:Nat)(u x:Int)(w':World):Prop:=w'.cell? (GB B 0)=some (.slice ao n c)/\w'.cell? (GB B 1)=some (GW u)/\w'.cell? (GB B 2)=some (GW x)
theorem sN.of{B:Nat}{u x:Int}{t:TypeId}(h:au W B #[.slice ao n c,GW u,GW x] t):sN B ao n c u x W:=⟨h.cell 0,h.cell 1,h.cell 2⟩
theorem Tryz.akD:(prog.info? 4).map (fun i=>(i.zero,i.size,i.bytes))=some (some (.bool false),1,1):=by kernel_rfl
