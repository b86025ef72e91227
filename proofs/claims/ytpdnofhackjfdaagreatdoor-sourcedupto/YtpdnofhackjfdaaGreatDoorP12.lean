/- What the states  -/
import Derived.Test.YtpdnofhackjfdaaGreatDoorP10
import Derived.Test.YtpdnofhackjfdaaGreatDoorP11
set_option linter.all false
set_option maxRecDepth 100000
namespace Go.Proofs.YtpdnofhackjfdaaGreatDoor
open Go.Proofs.Tryz
variable {f g:Bl} {A B:aL×aL} {sf sg:aL×aL->aL×aL} {a b s:Int} {gs:List Int} {M st:List MS} {c d i start t:Nat} {R:Nat->Prop} {x:TX}
abbrev iT:=Option (Nat×List Int)
inductive cT(M:List MS)(x:TX):Int->Nat->List Int->iT->Prop where
 |done (s:Nat) (m:MS) (i:Nat) (gs:List Int) (h:M[s]? =some m) (hk:m.kind=0):cT M x s i gs (some (i,gs))
 |jz (s:Nat) (m:MS) (i:Nat) (gs:List Int) (r:iT) (h:M[s]? =some m) (hk:m.kind=1) (ht:(decide (i<x.l.length)&&fW m.sp m.fo m.nt (x.bF i))=true) (hn:cT M x m.next (i+1) gs r):cT M x s i gs r
 |jf (s:Nat) (m:MS) (i:Nat) (gs:List Int) (h:M[s]? =some m) (hk:m.kind=1) (ht:(decide (i<x.l.length)&&fW m.sp m.fo m.nt (x.bF i))=false):cT M x s i gs none
 |SV (s:Nat) (m:MS) (i:Nat) (gs:List Int) (r:iT) (h:M[s]? =some m) (hk:m.kind=2) (he:Gv x m.eM i=true) (hn:cT M x m.next i gs r):cT M x s i gs r
 |SU (s:Nat) (m:MS) (i:Nat) (gs:List Int) (h:M[s]? =some m) (hk:m.kind=2) (he:Gv x m.eM i=false):cT M x s i gs none
 |mark (s:Nat) (m:MS) (i:Nat) (gs:List Int) (r:iT) (h:M[s]? =some m) (hk:m.kind=3) (hn:cT M x m.next i (gs.set m.slot.toNat (x.aZ i)) r):cT M x s i gs r
 |BJ (s:Nat) (m:MS) (i:Nat) (gs:List Int) (v:Nat×List Int) (h:M[s]? =some m) (hk:m.kind=4) (hn:cT M x m.next i gs (some v)):cT M x s i gs (some v)
 |BH (s:Nat) (m:MS) (i:Nat) (gs:List Int) (r:iT) (h:M[s]? =some m) (hk:m.kind=4) (hn:cT M x m.next i gs none) (ho:cT M x m.bj i gs r):cT M x s i gs r
theorem cT.Kk{r:iT}(h:cT M x s i gs r):0<=s:=by
 cases h<;>omega
def kR(M:List MS)(x:TX)(s:Int)(i:Nat)(gs:List Int)(r:iT):Prop:=(s= -1/\r=none)\/cT M x s i gs r
theorem kR.iI{r:iT}(h:kR M x s i gs r)(hs:s≠ -1):cT M x s i gs r:=h.resolve_left fun e=>hs e.1
theorem kR.none{r:iT}(h:kR M x s i gs r)(hs:s= -1):r=Option.none:=by
 rcases h with h|h
 ·exact h.2
 ·have:=h.Kk;omega
structure eW(x:TX)(f:Bl)(Yw:aL×aL->aL×aL):Prop where
 sy:∀st nx,df st.length nx->nx.1= -1->(f st nx).2.1= -1->∀(K:aL×aL),(∀i gs,K.1 i gs=none)->∀i gs,(Yw K).1 i gs=none
 iI:∀st nx,df st.length nx->∀M,gY M st.length (f st nx).1.length (f st nx).1->∀(K:aL×aL) (i:Nat),i<=x.l.length->
  ((∀gs,kR M x nx.1 i gs (K.1 i gs))->(∀j,i<j->j<=x.l.length->∀gs,cT M x nx.2 j gs (K.2 j gs))->∀gs,kR M x (f st nx).2.1 i gs ((Yw K).1 i gs))/\
  ((∀j,i<=j->j<=x.l.length->∀gs,cT M x nx.2 j gs (K.2 j gs))->∀gs,cT M x (f st nx).2.2 i gs ((Yw K).2 i gs))
theorem eW.id(x:TX):eW x (fun st nx=>(st,nx)) (fun p=>p) where
 sy st nx h h1 h2 K hK:=hK
 iI st nx h M hM K i hi:=⟨fun a _=>a,fun a gs=>a i (Ab _) hi gs⟩
theorem eW.comp(hf:eW x f sf)(hg:eW x g sg)(bf:BS f c)(bg:BS g d)
 (up:∀st nx,df st.length nx->nx.1≠ -1->(f st nx).2.1≠ -1):eW x (fun st nx=>f (g st nx).1 (g st nx).2) (fun p=>sf (sg p)) where
 sy st nx h h1 h2 K hK:=by
  have hx:=bg.fQ st nx h;by_cases e:(g st nx).2.1= -1
  ·exact hf.sy _ _ hx e h2 (sg K) (hg.sy st nx h h1 e K hK)
  ·exact absurd h2 (up _ _ hx e)
 iI st nx h M hM K i hi:=by
  have a:=bg.grow st nx;have b:=bf.grow (g st nx).1 (g st nx).2;have hMg:gY M st.length (g st nx).1.length (g st nx).1:=hM.left b.2 b.1;have hMf:gY M (g st nx).1.length (f (g st nx).1 (g st nx).2).1.length (f (g st nx).1 (g st nx).2).1:=hM.right a.1;have rg:=fun j hj=>hg.iI st nx h M hMg K j hj
  have rf:=hf.iI (g st nx).1 (g st nx).2 (bg.fQ _ _ h) M hMf (sg K) i hi;refine⟨fun h3 h4=>?_,fun h3=>?_⟩
  ·exact rf.1 ((rg i hi).1 h3 h4) (fun j j1 j2=>(rg j j2).2 (fun k k1 k2=>h4 k (by omega) k2))
  ·exact rf.2 (fun j j1 j2=>(rg j j2).2 (fun k k1 k2=>h3 k (by omega) k2))
def Up(f:Bl):Prop:=∀st nx,df st.length nx->nx.1≠ -1->(f st nx).2.1≠ -1
theorem eW.take(x:TX)(sp:bI)(fo nt:Bool):eW x (fun st nx=>(st++[pP sp fo nt nx.2],((st.length:Int),(st.length:Int)))) (fun p=>(uY x sp fo nt p.2,uY x sp fo nt p.2)) where
 sy st nx h h1 h2:=by simp only at h2;omega
 iI st nx h M hM K i hi:=by
  have hm:M[st.length]? =some (pP sp fo nt nx.2):=hM.at (Ab _) (by simp) (yV _ _)
  have key:(∀j,i<j->j<=x.l.length->∀gs,cT M x nx.2 j gs (K.2 j gs))->∀gs,cT M x (st.length:Int) i gs (uY x sp fo nt K.2 i gs):=by
   intro h4 gs;unfold uY;by_cases c:(decide (i<x.l.length)&&fW sp fo nt (x.bF i))=true
   ·rw[if_pos c];have az:i<x.l.length:=by simp at c;exact c.1
    exact cT.jz _ _ _ _ _ hm rfl c (h4 (i+1) (by omega) az gs)
   ·rw[if_neg c];exact cT.jf _ _ _ _ hm rfl (Eq.2 c)
  exact⟨fun _ h4 gs=>Or.inr (key h4 gs),fun h4 gs=>key (fun j j1 j2=>h4 j (by omega) j2) gs⟩
theorem eW.su{s:Int->MS}{L:aL->aL}(hz:∀k i,(∀gs,k i gs=none)->∀gs,L k i gs=none)
 (hl:∀(M:List MS) (a:Nat) (n:Int) (k:aL) (i:Nat),i<=x.l.length->M[a]? =some (s n)->(∀gs,cT M x n i gs (k i gs))->∀gs,cT M x a i gs (L k i gs)):eW x (fu s) (fun p=>(L p.1,L p.2)) where
 sy st nx h h1 h2 K hK i gs:=hz _ i (hK i) gs
 iI st nx h M hM K i hi:=by
  have h0:=h;unfold df at h0;unfold fu at hM⊢;by_cases c1:nx.1=nx.2
  ·rw[if_pos c1]at hM⊢;have hm:M[st.length]? =some (s nx.2):=hM.at (Ab _) (by simp) (yV _ _);exact⟨fun h3 _ gs=>Or.inr (hl M _ _ K.1 i hi hm (fun gs=>by have:=(h3 gs).iI (by omega);rw[c1]at this;exact this) gs),fun h3 gs=>hl M _ _ K.2 i hi hm (h3 i (Ab _) hi) gs⟩
  ·rw[if_neg c1]at hM⊢;by_cases c2:nx.1= -1
   ·rw[if_pos c2]at hM⊢;have hm:M[st.length]? =some (s nx.2):=hM.at (Ab _) (by simp) (yV _ _);exact⟨fun h3 _ gs=>Or.inl ⟨rfl,hz _ i (fun gs=>(h3 gs).none c2) gs⟩,fun h3 gs=>hl M _ _ K.2 i hi hm (h3 i (Ab _) hi) gs⟩
   ·rw[if_neg c2]at hM⊢;have hm:M[st.length]? =some (s nx.2):=hM.at (Ab _) (by simp) (by simp);have Nj:M[st.length+1]? =some (s nx.1):=hM.at (by omega) (by simp) (by simp);exact⟨fun h3 _ gs=>Or.inr (hl M (st.length+1) _ K.1 i hi Nj (fun gs=>(h3 gs).iI c2) gs),fun h3 gs=>hl M _ _ K.2 i hi hm (h3 i (Ab _) hi) gs⟩
theorem eW.rF(x:TX)(e:Int):eW x (fu (sH e)) (OM x e):=
 eW.su (L:=zU x e) (fun k i h gs=>by unfold zU;split<;>simp[h]) (fun M a n k i hi hm h gs=>by
  unfold zU;by_cases c:Gv x e i=true
  ·rw[if_pos c];exact cT.SV _ _ _ _ _ hm rfl c (h gs)
  ·rw[if_neg c];exact cT.SU _ _ _ _ hm rfl (Eq.2 c))
theorem eW.mark(x:TX)(n:Int)(k:Nat)(hk:n.toNat=k):eW x (fu (iS n)) (Ir x k):=
 eW.su (L:=zD x k) (fun c i h gs=>h _) (fun M a m c i hi hm h gs=>by
  refine cT.mark _ _ _ _ _ hm rfl ?_;show cT M x m i (gs.set n.toNat (x.aZ i)) _
  rw[hk];exact h _)
theorem QG{A B:aL}(hM:gY M st.length (dQ st a b).1.length (dQ st a b).1)(ha:kR M x a i gs (A i gs))(hb:kR M x b i gs (B i gs)):
 kR M x (dQ st a b).2 i gs (iu A B i gs):=by
 unfold dQ at hM⊢;unfold iu;by_cases c1:a= -1
 ·rw[if_pos c1,ha.none c1];exact hb
 ·rw[if_neg c1]at hM⊢;by_cases c2:b= -1
  ·rw[if_pos c2,hb.none c2]
   cases e:A i gs with
   |none=>simp only;rw[e]at ha;exact ha
   |some v=>simp only;rw[e]at ha;exact ha
  ·rw[if_neg c2]at hM⊢;have hm:M[st.length]? =some (ku a b):=hM.at (Ab _) (by simp) (yV _ _);have ra:=ha.iI c1;have rb:=hb.iI c2
   cases e:A i gs with
   |none=>simp only;rw[e]at ra;exact Or.inr (cT.BH _ _ _ _ _ hm rfl ra rb)
   |some v=>simp only;rw[e]at ra;exact Or.inr (cT.BJ _ _ _ _ _ hm rfl ra)
theorem QI{f s:Ex}(hM:gY M st.length (gP st f s).1.length (gP st f s).1):
 (kR M x f.1 i gs (A.1 i gs)->kR M x s.1 i gs (B.1 i gs)->kR M x (gP st f s).2.1 i gs ((oz A B).1 i gs))/\
 (kR M x f.2 i gs (A.2 i gs)->kR M x s.2 i gs (B.2 i gs)->kR M x (gP st f s).2.2 i gs ((oz A B).2 i gs)):=by
 unfold gP at hM⊢;by_cases c:f.1=f.2/\s.1=s.2
 ·rw[if_pos c]at hM⊢;refine⟨fun a b=>?_,fun a b=>QG hM a b⟩;rw[c.1]at a;rw[c.2]at b;exact QG hM a b
 ·rw[if_neg c]at hM⊢;have g1:=uh st f.2 s.2;have g2:=uh (dQ st f.2 s.2).1 f.1 s.1;refine⟨fun a b=>QG (hM.right g1.1) a b,fun a b=>QG (hM.left g2.2.1 g2.1) a b⟩
theorem abl{f s:Ex}(lz:Bool)(hM:gY M st.length (dx lz st f s).1.length (dx lz st f s).1):
 (kR M x f.1 i gs (A.1 i gs)->kR M x s.1 i gs (B.1 i gs)->kR M x (dx lz st f s).2.1 i gs ((qL lz A B).1 i gs))/\
 (kR M x f.2 i gs (A.2 i gs)->kR M x s.2 i gs (B.2 i gs)->kR M x (dx lz st f s).2.2 i gs ((qL lz A B).2 i gs)):=by
 unfold dx qL at*
 cases lz
 ·simp only[Aq,if_false]at*;exact QI hM
 ·simp only[if_true]at*;exact⟨fun a b=>(QI hM).1 b a,fun a b=>(QI hM).2 b a⟩
theorem Vc{A B:aL}(ha:A i gs=none)(hb:B i gs=none):iu A B i gs=none:=by unfold iu;rw[ha];exact hb
theorem abh(lz:Bool)(ha:A.1 i gs=none)(hb:B.1 i gs=none):(qL lz A B).1 i gs=none:=by
 unfold qL;cases lz
 ·exact Vc ha hb
 ·exact Vc hb ha
theorem abI(h:(dQ st a b).2= -1):a= -1/\b= -1:=by
 unfold dQ at h;split at h
 ·exact⟨by assumption,h⟩
 ·split at h
  ·exact⟨h,by assumption⟩
  ·simp only at h;omega
theorem QH{f s:Ex}(h:(gP st f s).2.1= -1):f.1= -1/\s.1= -1:=by
 unfold gP at h;split at h
 ·next c=>have:=abI h;omega
 ·exact abI h
theorem Qz{f s:Ex}(lz:Bool)(h:(dx lz st f s).2.1= -1):f.1= -1/\s.1= -1:=by
 unfold dx at h;cases lz
 ·exact QH h
 ·exact(QH h).symm
theorem eW.aI(hf:eW x f sf)(hg:eW x g sg)(bf:BS f c)(bg:BS g d):
 eW x (fun st nx=>gP (f (g st nx).1 nx).1 (f (g st nx).1 nx).2 (g st nx).2) (fun p=>oz (sf p) (sg p)) where
 sy st nx h h1 h2 K hK i gs:=by
  have e:=QH h2;have a:=bg.grow st nx;exact Vc (hf.sy _ _ (h.mono a.1) h1 e.1 K hK i gs) (hg.sy _ _ h h1 e.2 K hK i gs)
 iI st nx h M hM K i hi:=by
  have a:=bg.grow st nx;have b:=bf.grow (g st nx).1 nx;have e:=Gy (f (g st nx).1 nx).1 (f (g st nx).1 nx).2 (g st nx).2;have ab1:gY M st.length (f (g st nx).1 nx).1.length (f (g st nx).1 nx).1:=hM.left e.2.1 e.1;have rg:=hg.iI st nx h M (ab1.left b.2 b.1) K i hi;have rf:=hf.iI (g st nx).1 nx (h.mono a.1) M (ab1.right a.1) K i hi;have xf:=bf.fQ (g st nx).1 nx (h.mono a.1);have xg:=bg.fQ st nx h;have r:=fun gs=>QI (gs:=gs) (i:=i) (x:=x) (A:=sf K) (B:=sg K) (hM.right (a:=(f (g st nx).1 nx).1) (Bh a.1 b.1))
  refine⟨fun h3 h4 gs=>(r gs).1 (rf.1 h3 h4 gs) (rg.1 h3 h4 gs),fun h3 gs=>((r gs).2 (Or.inr (rf.2 h3 gs)) (Or.inr (rg.2 h3 gs))).iI ?_⟩;have ok:=Jp (st:=(f (g st nx).1 nx).1) (f:=(f (g st nx).1 nx).2) (s:=(g st nx).2) xf.l_ (xg.mono b.1).l_ (Or.inl (by have:=xf.1;omega));have:=ok.1.1;omega
theorem Up.comp(hf:Up f)(hg:Up g)(bg:BS g d):Up (fun st nx=>f (g st nx).1 (g st nx).2):=fun st nx h h1=>hf _ _ (bg.fQ _ _ h) (hg _ _ h h1)
theorem Up.aI(hf:Up f)(bg:BS g d):Up (fun st nx=>gP (f (g st nx).1 nx).1 (f (g st nx).1 nx).2 (g st nx).2):=fun st nx h h1 e=>
 hf _ _ (h.mono (bg.grow st nx).1) h1 (QH e).1
theorem Up.id:Up (fun st nx=>(st,nx)):=fun st nx h h1=>h1
theorem Up.take(sp:bI)(fo nt:Bool):Up (fun st nx=>(st++[pP sp fo nt nx.2],((st.length:Int),(st.length:Int)))):=fun st nx h h1 e=>by simp only at e;omega
theorem Up.su(s:Int->MS):Up (fu s):=fun st nx h h1 e=>by
 unfold fu at e;rw[if_neg h1]at e;split at e
 ·simp only at e;omega
 ·simp only at e;omega
theorem Up.gR(hf:Up f)(bf:BS f c):∀m,Up (nG f m)
 |0=>Up.id
 |m+1=>(Up.gR hf bf m).comp hf bf
theorem RQ(f:aL×aL->aL×aL):∀(m:Nat) (p:aL×aL),oN f m (f p)=oN f (m+1) p
 |0,p=>rfl
 |m+1,p=>by
  show f (oN f m (f p))=f (oN f (m+1) p)
  rw[RQ f m p]
theorem eW.gR(hf:eW x f sf)(bf:BS f c)(up:Up f):∀m,eW x (nG f m) (oN sf m)
 |0=>eW.id x
 |m+1=>by
  have:=(eW.gR hf bf up m).comp hf (bf.gR m) bf (up.gR bf m);have e:(fun p=>oN sf m (sf p))=oN sf (m+1):=funext fun p=>RQ sf m p
  rw[e]at this;exact this
theorem Se(lz:Bool)(hf:eW x f sf)(bf:BS f c)(up:Up f)(nx:Ex):∀(m:Nat) (st:List MS) (al:Ex),df st.length nx->df st.length al->
 (nx.1= -1->(fT f lz nx m st al).2.1= -1->al.1= -1/\∀(K Ka:aL×aL),(∀i gs,K.1 i gs=none)->(∀i gs,Ka.1 i gs=none)->∀i gs,(oN (zG sf lz K) m Ka).1 i gs=none)/\
 (al.1≠ -1->(fT f lz nx m st al).2.1≠ -1)/\
 (∀M,gY M st.length (fT f lz nx m st al).1.length (fT f lz nx m st al).1->∀(K Ka:aL×aL) (i:Nat),i<=x.l.length->
   ((∀gs,kR M x nx.1 i gs (K.1 i gs))->(∀j,i<j->j<=x.l.length->∀gs,cT M x nx.2 j gs (K.2 j gs))->(∀gs,kR M x al.1 i gs (Ka.1 i gs))->(∀j,i<j->j<=x.l.length->∀gs,cT M x al.2 j gs (Ka.2 j gs))->
     ∀gs,kR M x (fT f lz nx m st al).2.1 i gs ((oN (zG sf lz K) m Ka).1 i gs))/\
   ((∀j,i<=j->j<=x.l.length->∀gs,cT M x nx.2 j gs (K.2 j gs))->(∀j,i<=j->j<=x.l.length->∀gs,cT M x al.2 j gs (Ka.2 j gs))->∀gs,cT M x (fT f lz nx m st al).2.2 i gs ((oN (zG sf lz K) m Ka).2 i gs)))
 |0,st,al,h,ha=>⟨fun _ e=>⟨e,fun K Ka _ VE=>VE⟩,fun h2=>h2,fun M hM K Ka i hi=>⟨fun _ _ h3 _ gs=>h3 gs,fun _ h3 gs=>h3 i (Ab _) hi gs⟩⟩
 |m+1,st,al,h,ha=>by
  have g1:=bf.grow st al;have g2:=uf lz (f st al).1 (f st al).2 nx;have x1:=bf.fQ st al ha;have ok:=yQ (st:=(f st al).1) lz (f:=(f st al).2) (s:=nx) x1.l_ (h.mono g1.1).l_ (Or.inl (by have:=x1.1;omega));have xS:df (dx lz (f st al).1 (f st al).2 nx).1.length nx:=h.mono (by omega);have ih:=Se lz hf bf up nx m (dx lz (f st al).1 (f st al).2 nx).1 (dx lz (f st al).1 (f st al).2 nx).2 xS ok.1;have gm:=((bf.nX lz m).grow nx (dx lz (f st al).1 (f st al).2 nx).1 (dx lz (f st al).1 (f st al).2 nx).2);refine⟨fun h1 h3=>?_,fun h2=>?_,fun M hM K Ka i hi=>?_⟩
  ·have yW:(fT f lz nx m (dx lz (f st al).1 (f st al).2 nx).1 (dx lz (f st al).1 (f st al).2 nx).2).2.1= -1:=h3;have e:=ih.1 h1 yW;have e1:=(Qz lz e.1).1;have xF:al.1= -1:=(Dv fun c=>up st al ha c e1);refine⟨xF,fun K Ka hK VE i gs=>?_⟩;rw[<-RQ];exact e.2 K _ hK (fun i gs=>abh lz (hf.sy st al ha xF e1 Ka VE i gs) (hK i gs)) i gs
  ·exact ih.2.1 fun e=>up st al ha h2 (Qz lz e).1
  ·have uj:gY M st.length (fT f lz nx m (dx lz (f st al).1 (f st al).2 nx).1 (dx lz (f st al).1 (f st al).2 nx).2).1.length (fT f lz nx m (dx lz (f st al).1 (f st al).2 nx).1 (dx lz (f st al).1 (f st al).2 nx).2).1:=hM;have hE:gY M st.length (dx lz (f st al).1 (f st al).2 nx).1.length (dx lz (f st al).1 (f st al).2 nx).1:=uj.left gm.2 gm.1;have hF:gY M st.length (f st al).1.length (f st al).1:=hE.left g2.2.1 g2.1;have rf:=(fun j hj=>hf.iI st al ha M hF Ka j hj);have re:=fun j gs=>abl (gs:=gs) (i:=j) (x:=x) (A:=sf Ka) (B:=K) lz (hE.right (a:=(f st al).1) g1.1)
   have mv:∀j,j<=x.l.length->(∀k,j<=k->k<=x.l.length->∀gs,cT M x nx.2 k gs (K.2 k gs))->(∀k,j<=k->k<=x.l.length->∀gs,cT M x al.2 k gs (Ka.2 k gs))->∀gs,cT M x (dx lz (f st al).1 (f st al).2 nx).2.2 j gs ((zG sf lz K Ka).2 j gs):=fun j hj a1 a2 gs=>
    ((re j gs).2 (Or.inr ((rf j hj).2 a2 gs)) (Or.inr (a1 j (Ab _) hj gs))).iI (by have:=ok.1.1;omega)
   have r:=ih.2.2 M (uj.right (by omega)) K (zG sf lz K Ka) i hi;rw[<-RQ];refine⟨fun h3 h4 h5 h6 gs=>?_,fun h3 h4 gs=>?_⟩
   ·exact r.1 h3 h4 (fun gs=>(re i gs).1 ((rf i hi).1 h5 h6 gs) (h3 gs)) (fun j j1 j2 gs=>mv j j2 (fun k k1 k2=>h4 k (by omega) k2) (fun k k1 k2=>h6 k (by omega) k2) gs) gs
   ·exact r.2 h3 (fun j j1 j2 gs=>mv j j2 (fun k k1 k2=>h3 k (by omega) k2) (fun k k1 k2=>h4 k (by omega) k2) gs) gs
theorem eW.nX(lz:Bool)(hf:eW x f sf)(bf:BS f c)(up:Up f)(m:Nat):eW x (fun st nx=>fT f lz nx m st nx) (fun p=>oN (zG sf lz p) m p) where
 sy st nx h h1 h2 K hK:=((Se lz hf bf up nx m st nx h h).1 h1 h2).2 K K hK hK
 iI st nx h M hM K i hi:=by
  have r:=(Se lz hf bf up nx m st nx h h).2.2 M hM K K i hi;exact⟨fun a b=>r.1 a b a b,fun a=>r.2 a a⟩
theorem Up.nX(lz:Bool)(hf:eW x f sf)(bf:BS f c)(up:Up f)(m:Nat):Up (fun st nx=>fT f lz nx m st nx):=fun st nx h h1=>
 (Se lz hf bf up nx m st nx h h).2.1 h1
theorem Up.loop(f:Bl)(lz:Bool):Up (nF f lz):=fun st nx h h1 e=>by
 unfold nF qI at e;exact h1 (Qz lz e).2
theorem eW.loop(lz:Bool)(hf:eW x f sf)(bf:BS f c)(hl:dK x.l.length sf):eW x (nF f lz) (uP x sf lz) where
 sy st nx h h1 h2 K hK i gs:=by
  unfold nF qI at h2;have e:=Qz lz h2;have hx:df (st++[bS]).length (-1,(st.length:Int)):=by simp only[Aj,Ax,Bf];unfold df;simp only;omega
  unfold uP;exact abh lz (hf.sy _ _ hx rfl e.1 (gh,_) (fun _ _=>rfl) i gs) (hK i gs)
 iI st nx h M hM K i hi:=by
  have hln:(st++[bS]).length=st.length+1:=by simp
  have hx:df (st++[bS]).length (-1,(st.length:Int)):=by rw[hln];unfold df;simp only;omega
  have g1:=bf.grow (st++[bS]) (-1,st.length);have x1:=bf.fQ (st++[bS]) (-1,st.length) hx;have ns:=hf.sy (st++[bS]) (-1,st.length) hx rfl;have rf:=hf.iI (st++[bS]) (-1,st.length) hx M;have n2:nx.2≠ -1:=by have:=h.1;omega
  unfold nF qI at hM⊢;generalize hP:f (st++[bS]) (-1,st.length)=P at*;obtain⟨S,t,u⟩:=P;simp only[Bp]at hM g1 x1 ns rf⊢;have g2:=uf lz S (t,t) nx;by_cases ht:t= -1
  ·subst ht;rw[abj]at hM⊢;have z:∀(A:aL) i gs,(sf (gh,A)).1 i gs=none:=fun A i gs=>ns rfl (gh,A) (fun _ _=>rfl) i gs
   have e1:∀i gs,(uP x sf lz K).1 i gs=K.1 i gs:=fun i gs=>by
    unfold uP qL
    cases lz
    ·simp only[Aq,if_false,oz,iu];rw[z]
    ·simp only[if_true,oz,iu];rw[z];cases K.1 i gs<;>rfl
   have e2:∀i gs,(uP x sf lz K).2 i gs=K.2 i gs:=fun i gs=>by
    unfold uP qL
    cases lz
    ·simp only[Aq,if_false,oz,iu];rw[z]
    ·simp only[if_true,oz,iu];rw[z];cases K.2 i gs<;>rfl
   exact⟨fun h3 _ gs=>by rw[e1];exact h3 gs,fun h3 gs=>by rw[e2];exact h3 i (Ab _) hi gs⟩
  ·have em:=abi lz S (t:=t) (nx:=nx) ht n2;have er:=(fun j gs=>abl (M:=M) (st:=S) (f:=(t,t)) (s:=nx) (gs:=gs) (i:=j) (x:=x) (A:=((sf (gh,ua x.l.length sf lz K.2)).1,(sf (gh,ua x.l.length sf lz K.2)).1)) (B:=K) lz);have ok:=yQ (st:=S) lz (f:=(t,t)) (s:=nx) ⟨x1.2,x1.2⟩ (h.mono (by omega)).l_ (Or.inr n2);generalize hE:dx lz S (t,t) nx=E at*
   have lg:E.1.getD E.2.2.toNat bS=(if lz then ku nx.2 t else ku t nx.2):=by
    rw[em.1,Az,Af,em.2];rfl
   rw[lg]at hM
   have hA:M[st.length]? =some (if lz then ku nx.2 t else ku t nx.2):=by
    rw[hM st.length (Ab _) (by omega)];exact Ee (by omega)
   have uj:gY M (st.length+1) E.1.length E.1:=fun j h1 h2=>by
    rw[hM j (by omega) h2,Et (by omega)]
   have hMS:gY M (st++[bS]).length S.length S:=by rw[hln];exact gY.left uj g2.2.1 g2.1
   have hME:gY M S.length E.1.length E.1:=fun j h1 h2=>uj j (by omega) h2
   have lr:∀j,j<=x.l.length->(∀k,j<k->k<=x.l.length->∀gs,cT M x (st.length:Int) k gs (ua x.l.length sf lz K.2 k gs))->∀gs,cT M x t j gs ((sf (gh,ua x.l.length sf lz K.2)).1 j gs):=fun j hj hk gs=>
    ((rf hMS (gh,ua x.l.length sf lz K.2) j hj).1 (fun gs=>Or.inl ⟨rfl,rfl⟩) hk gs).iI ht
   have again:∀d j,x.l.length-j<=d->j<=x.l.length->(∀k,j<=k->k<=x.l.length->∀gs,cT M x nx.2 k gs (K.2 k gs))->∀gs,cT M x (st.length:Int) j gs (ua x.l.length sf lz K.2 j gs):=by
    intro d;induction d with
    |zero=>
     intro j hd hj hk gs;have rt:=lr j hj (fun k k1 k2=>by omega) gs;have rn:=hk j (Ab _) hj gs;rw[aaz hl lz K.2 j hj gs]
     cases lz
     ·simp only[Aq,if_false]at hA⊢;unfold iu
      cases e:(sf (gh,ua x.l.length sf false K.2)).1 j gs with
      |none=>rw[e]at rt;exact cT.BH _ _ _ _ _ hA rfl rt rn
      |some v=>rw[e]at rt;exact cT.BJ _ _ _ _ _ hA rfl rt
     ·simp only[if_true]at hA⊢;unfold iu
      cases e:K.2 j gs with
      |none=>rw[e]at rn;exact cT.BH _ _ _ _ _ hA rfl rn rt
      |some v=>rw[e]at rn;exact cT.BJ _ _ _ _ _ hA rfl rn
    |succ d ih=>
     intro j hd hj hk gs;have rt:=lr j hj (fun k k1 k2 gs=>ih k (by omega) k2 (fun k' a b=>hk k' (by omega) b) gs) gs;have rn:=hk j (Ab _) hj gs;rw[aaz hl lz K.2 j hj gs]
     cases lz
     ·simp only[Aq,if_false]at hA⊢;unfold iu
      cases e:(sf (gh,ua x.l.length sf false K.2)).1 j gs with
      |none=>rw[e]at rt;exact cT.BH _ _ _ _ _ hA rfl rt rn
      |some v=>rw[e]at rt;exact cT.BJ _ _ _ _ _ hA rfl rt
     ·simp only[if_true]at hA⊢;unfold iu
      cases e:K.2 j gs with
      |none=>rw[e]at rn;exact cT.BH _ _ _ _ _ hA rfl rn rt
      |some v=>rw[e]at rn;exact cT.BJ _ _ _ _ _ hA rfl rn
   refine⟨fun h3 h4 gs=>?_,fun h3 gs=>?_⟩
   ·exact(er i gs hME).1 (Or.inr (lr i hi (fun k k1 k2 gs=>again _ k (Ab _) k2 (fun k' a b=>h4 k' (by omega) b) gs) gs)) (h3 gs)
   ·refine((er i gs hME).2 (Or.inr (lr i hi (fun k k1 k2 gs=>again _ k (Ab _) k2 (fun k' a b=>h3 k' (by omega) b) gs) gs)) (Or.inr (h3 i (Ab _) hi gs))).iI ?_;have:=ok.1.1;omega
theorem eW.wT(hf:eW x f sf)(bf:BS f c)(hl:dK x.l.length sf)(up:Up f)(lo hi:Int)(lz:Bool):eW x (nH f lo hi lz) (zY x sf lo hi lz):=by
 unfold nH zY;by_cases e:hi= -1
 ·simp only[e,if_true];exact(hf.gR bf up lo.toNat).comp (hf.loop lz bf hl) (bf.gR _) (bf.loop lz) (up.gR bf _)
 ·simp only[e,if_false];exact(hf.gR bf up lo.toNat).comp (hf.nX lz bf up (hi-lo).toNat) (bf.gR _) (bf.nX lz _).bs (up.gR bf _)
theorem Up.wT(hf:eW x f sf)(bf:BS f c)(up:Up f)(lo hi:Int)(lz:Bool):Up (nH f lo hi lz):=by
 unfold nH;by_cases e:hi= -1
 ·simp only[e,if_true];exact(up.gR bf _).comp (Up.loop f lz) (bf.loop lz)
 ·simp only[e,if_false];exact(up.gR bf _).comp (Up.nX lz hf bf up _) (bf.nX lz _).bs
mutual
def CT.g_(G:Int):CT->Prop
 |.node k sp fo nt ed gr lo hi lz cU=>0<=gr/\gr<=G/\CT.fI G cU
def CT.fI(G:Int):List CT->Prop
 | []=>True
 |c::cs=>CT.g_ G c/\CT.fI G cs
end
mutual
theorem L7(x:TX)(G:Int):∀C:CT,C.ok->C.sz<=1000->C.g_ G->eW x (bB C) (tM x C)/\Up (bB C)
 |.node k sp fo nt ed gr lo hi lz cU,h,hs,hg=>by
  unfold CT.ok at h;unfold CT.g_ at hg;obtain⟨h1,h2,h3,h5,h6⟩:=h;obtain⟨g1,g2,g3⟩:=hg;have hn:=CT.wS cU h6;have tc:=agG x G cU h6;have mw:=aaD cU h6;have GJ:=aaF x G cU h6;have GG:=aaB x G cU h6;have ald:=afe x cU;unfold CT.sz at hs;unfold bB tM;by_cases k0:k=0
  ·simp only[k0,if_true,true_or]at hs⊢;exact⟨eW.take x sp fo nt,Up.take sp fo nt⟩
  ·by_cases k1:k=1
   ·simp only[k1,if_true,true_or,or_true,Int.reduceEq,if_false]at hs⊢;exact⟨eW.rF x ed,Up.su _⟩
   ·by_cases k2:k=2
    ·simp only[k2,if_true,or_true,Int.reduceEq,if_false]at hs⊢;have hO:=tc (by omega) (h2 (Or.inl k2)) g3;have bO:=mw (by omega) (h2 (Or.inl k2));by_cases g0:gr=0
     ·simp only[g0,if_true];exact hO
     ·simp only[g0,if_false];have m1:=eW.mark x (2*(gr-1)+1) (2*(gr.toNat-1)+1) (by omega);have m0:=eW.mark x (2*(gr-1)) (2*(gr.toNat-1)) (by omega);have b1:=BS.mark (2*(gr-1)+1);have u1:Up (fu (iS (2*(gr-1)+1))):=Up.su _;exact⟨m0.comp (hO.1.comp m1 bO b1 hO.2) (BS.mark _) (bO.comp b1) (Up.su _),(Up.su _).comp (hO.2.comp u1 b1) (bO.comp b1)⟩
    ·have UW:¬(k=0\/k=1\/k=2):=(by omega);rw[if_neg UW]at hs;simp only[k0,k1,k2,if_false];by_cases k3:k=3
     ·simp only[k3,if_true,Int.reduceEq,if_false]at hs⊢;exact GJ (by omega) g3
     ·by_cases k4:k=4
      ·simp only[k4,if_true,Int.reduceEq,if_false]at hs⊢;have hp:=Bt.2 (h3 k4);exact GG (by omega) (h3 k4) g3
      ·have k5:k=5:=(by omega);simp only[k5,if_true,Int.reduceEq,if_false]at hs⊢;have hb:=h5 k5;have hc:0<=(if hi= -1 then lo+1 else hi)/\(if hi= -1 then lo+1 else hi)<=21:=by split<;>omega
       generalize jD:(if hi= -1 then lo+1 else hi)=cc at*
       by_cases z:cc=0
       ·have cW:hi=0/\lo=0:=by split at jD<;>omega
        have e:nH (Go.Proofs.YtpdnofhackjfdaaGreatDoor.mw cU) lo hi lz=fun st nx=>(st,nx):=by
         funext st nx
         unfold nH;rw[cW.1,cW.2];rfl
        have e':(fun st nx=>nH (Go.Proofs.YtpdnofhackjfdaaGreatDoor.mw cU) lo hi lz st nx)=fun st nx=>(st,nx):=by rw[e]
        have e2:(fun nx=>zY x (yi x cU) lo hi lz nx)=fun nx=>nx:=by
         funext nx
         unfold zY;rw[cW.1,cW.2];rfl
        rw[e',e2];exact⟨eW.id x,Up.id⟩
       ·have hm:cc*(CT.cK cU+1)<=1000:=by omega
        have h_:CT.cK cU+1<=cc*(CT.cK cU+1):=by
         have:=D8 (show 1<=cc by omega) (show 0<=CT.cK cU+1 by omega);rw[Int.one_mul]at this;exact this
        have hO:=tc (by omega) (h2 (Or.inr k5)) g3;have bO:=mw (by omega) (h2 (Or.inr k5));exact⟨eW.wT hO.1 bO ald hO.2 lo hi lz,Up.wT hO.1 bO hO.2 lo hi lz⟩
theorem agG(x:TX)(G:Int):∀cs:List CT,CT.eI cs->CT.cK cs<=1000->cs.length=1->CT.fI G cs->eW x (mw cs) (yi x cs)/\Up (mw cs)
 | [],_,_,hl,_=>by simp at hl
 | [c],h,hs,_,hg=>by
   unfold CT.eI at h;unfold CT.fI at hg;simp only[CT.cK,Int.add_zero]at hs;unfold mw yi;exact L7 x G c h.1 hs hg.1
 |c::d::cs,h,hs,hl,_=>by simp at hl
theorem aaF(x:TX)(G:Int):∀cs:List CT,CT.eI cs->CT.cK cs<=1000->CT.fI G cs->eW x (km cs) (zR x cs)/\Up (km cs)
 | [],_,_,_=>by unfold km zR;exact⟨eW.id x,Up.id⟩
 |c::cs,h,hs,hg=>by
  unfold CT.eI at h;unfold CT.fI at hg;have h1:=CT.zV c h.1;have h2:=CT.wS cs h.2;unfold CT.cK at hs;unfold km zR;have a:=L7 x G c h.1 (by omega) hg.1;have b:=aaF x G cs h.2 (by omega) hg.2;have ba:=oo c h.1 (by omega);have bb:=UF cs h.2 (by omega);exact⟨a.1.comp b.1 ba bb a.2,a.2.comp b.2 bb⟩
theorem aaB(x:TX)(G:Int):∀cs:List CT,CT.eI cs->CT.cK cs<=1000->cs≠ []->CT.fI G cs->eW x (jn cs) (yh x cs)/\Up (jn cs)
 | [],_,_,hl,_=>absurd rfl hl
 | [c],h,hs,_,hg=>by
   unfold CT.eI at h;unfold CT.fI at hg;simp only[CT.cK,Int.add_zero]at hs;unfold jn yh;exact L7 x G c h.1 hs hg.1
 |c::d::cs,h,hs,hl,hg=>by
  have hc:CT.ok c/\CT.eI (d::cs):=by unfold CT.eI at h;exact h
  have nT:CT.g_ G c/\CT.fI G (d::cs):=by unfold CT.fI at hg;exact hg
  have h1:=CT.zV c hc.1;have h2:=CT.wS (d::cs) hc.2;have q_:CT.sz c+CT.cK (d::cs)<=1000:=by unfold CT.cK at hs;exact hs
  have a:=L7 x G c hc.1 (by omega) nT.1;have b:=aaB x G (d::cs) hc.2 (by omega) (by simp) nT.2;have ba:=oo c hc.1 (by omega);have bb:=UE (d::cs) hc.2 (by omega) (by simp);unfold jn yh;exact⟨a.1.aI b.1 ba bb,a.2.aI bb⟩
end
structure VS where
 num:List Int
 aP:List Nat
 bH:List Nat
def VS.put(V:VS)(s:Nat):VS:=⟨V.num.set s V.aP.length,V.aP++[s],V.bH⟩
def VS.iF(V:VS)(t:Nat):VS:=⟨V.num,V.aP,V.bH++[t]⟩
inductive lB(M:List MS):VS->Int->VS->Prop where
 |aN (V:VS) (s:Nat) (v:Int) (h:V.num[s]? =some v) (hv:v≠ -1):lB M V s V
 |stop (V:VS) (s:Nat) (m:MS) (hn:V.num[s]? =some (-1)) (h:M[s]? =some m) (hk:m.kind≠1/\m.kind≠2/\m.kind≠3/\m.kind≠4):lB M V s (V.put s)
 |take (V:VS) (s:Nat) (m:MS) (hn:V.num[s]? =some (-1)) (h:M[s]? =some m) (hk:m.kind=1):lB M V s ((V.iF m.next.toNat).put s)
 |one (V V':VS) (s:Nat) (m:MS) (hn:V.num[s]? =some (-1)) (h:M[s]? =some m) (hk:m.kind=2\/m.kind=3) (hv:lB M V m.next V'):lB M V s (V'.put s)
 |cM (V V' V2:VS) (s:Nat) (m:MS) (hn:V.num[s]? =some (-1)) (h:M[s]? =some m) (hk:m.kind=4) (hv:lB M V m.next V') (hw:lB M V' m.bj V2):lB M V s (V2.put s)
def t_(M:List MS)(s t:Int):Prop:=∃(j:Nat) (m:MS),s=j/\M[j]? =some m/\(((m.kind=2\/m.kind=3\/m.kind=4)/\t=m.next)\/(m.kind=4/\t=m.bj))
inductive Reach(M:List MS):Int->Int->Prop where
 |refl (s:Int):Reach M s s
 |step (s t u:Int) (h:t_ M s t) (hr:Reach M t u):Reach M s u
theorem Reach.trans{c:Int}(h:Reach M a b)(h':Reach M b c):Reach M a c:=by
 induction h with
 |refl s=>exact h'
 |step s t u hs hr ih=>exact Reach.step s t c hs (ih h')
theorem eZ.adM(h:eZ M s):∀c,t_ M s c->¬Reach M c s:=by
 have key:∀{s c:Int},t_ M s c->(∀d,t_ M c d->¬Reach M d c)->¬Reach M c s:=by
  intro s c hs ih hr
  cases hr with
  |refl=>exact ih _ hs (Reach.refl _)
  |step _ d _ hd hr=>exact ih d hd (hr.trans (Reach.step _ _ _ hs (Reach.refl _)))
 induction h with
 |stop s m hm hk=>
  rintro c ⟨j,m',hj,h1,h2⟩;have:j=s:=by omega
  subst this;rw[hm]at h1
  cases h1;omega
 |one s m hm hk hn ih=>
  intro c hc;refine key hc ?_;obtain⟨j,m',hj,h1,h2⟩:=hc;have:j=s:=by omega
  subst this;rw[hm]at h1
  cases h1;rcases h2 with h2|h2
  ·rw[h2.2];exact ih
  ·omega
 |cM s m hm hk hn ho ih uK=>
  intro c hc;refine key hc ?_;obtain⟨j,m',hj,h1,h2⟩:=hc;have:j=s:=by omega
  subst this;rw[hm]at h1
  cases h1;rcases h2 with h2|h2
  ·rw[h2.2];exact ih
  ·rw[h2.2];exact uK
structure jK(M:List MS)(R:Nat->Prop)(V:VS):Prop where
 len:V.num.length=M.length
 vI:V.aP.length=V.num.countP (fun v=>v != -1)
 has:∀(s:Nat) (v:Int),V.num[s]? =some v->v≠ -1->∃k:Nat,v=k/\V.aP[k]? =some s
 at_:∀(k s:Nat),V.aP[k]? =some s->V.num[s]? =some (k:Int)
 RO:∀s∈V.aP,R s
 bH:∀t∈V.bH,R t
 next:∀(k s:Nat) (m:MS),V.aP[k]? =some s->M[s]? =some m->(m.kind=1->m.next.toNat∈V.bH)/\(∀t,t_ M s t->∃k':Nat,k'<k/\V.num[t.toNat]? =some (k':Int))
structure mX(M:List MS)(s:Int)(V V':VS):Prop where
 aP:∃l,V'.aP=V.aP++l/\∀t∈l,Reach M s (t:Int)
 bH:∃l,V'.bH=V.bH++l
theorem mX.refl(M:List MS)(s:Int)(V:VS):mX M s V V:=⟨⟨[],by simp,fun t h=>by simp at h⟩,⟨[],by simp⟩⟩
theorem mX.trans{t u:Int}{V V' V2:VS}(h:mX M s V V')(h':mX M t V' V2)(hs:Reach M u s)(ht:Reach M u t):mX M u V V2:=by
 obtain⟨⟨l,h1,h2⟩,⟨l',h3⟩⟩:=h;obtain⟨⟨k,k1,k2⟩,⟨k',k3⟩⟩:=h';refine⟨⟨l++k,by rw[k1,h1,Bu],fun x hx=>?_⟩,⟨l'++k',by rw[k3,h3,Bu]⟩⟩;rcases Ap.1 hx with hx|hx
 ·exact hs.trans (h2 x hx)
 ·exact ht.trans (k2 x hx)
theorem jK.adR{V V':VS}(h:jK M R V)(h':jK M R V')(e:mX M s V V'){v:Int}(ht:V.num[t]? =some v)(hv:v≠ -1):V'.num[t]? =some v:=by
 obtain⟨k,rfl,hk⟩:=h.has t v ht hv;obtain⟨⟨l,h1,_⟩,_⟩:=e;refine h'.at_ k t ?_;rw[h1,Ay (Ai.1 hk).1];exact hk
theorem jK.YG{V V':VS}(h:jK M R V)(h':jK M R V')(e:mX M s V V')(ht:V.num[t]? =some (-1))(hr:¬Reach M s t):V'.num[t]? =some (-1):=by
 have az:t<V'.num.length:=by rw[h'.len,<-h.len];exact(Ai.1 ht).1
 have hv:V'.num[t]? =some V'.num[t]:=Ae az;by_cases hn:V'.num[t]= -1
 ·rw[hv,hn]
 ·exfalso
  obtain⟨k,e1,hk⟩:=h'.has t _ hv hn;obtain⟨⟨l,h1,h2⟩,_⟩:=e;rw[h1]at hk;by_cases jP:k<V.aP.length
  ·rw[Ay jP]at hk;have:=h.at_ k t hk;rw[ht]at this
   cases this
  ·rw[Br (by omega)]at hk;exact hr (h2 t (Ce hk))
theorem jK.put{V:VS}(h:jK M R V){s:Nat}(hn:V.num[s]? =some (-1))(hR:R s)
 (hs:∀m,M[s]? =some m->(m.kind=1->m.next.toNat∈V.bH)/\(∀t,t_ M s t->∃k':Nat,V.num[t.toNat]? =some (k':Int))):jK M R (V.put s):=by
 have az:=(Ai.1 hn).1
 have lg:∀t:Nat,(V.put s).num[t]? =if t=s then some (V.aP.length:Int)else V.num[t]? :=by
  intro t;show(V.num.set s (V.aP.length:Int))[t]? =_
  by_cases e:t=s
  ·subst e;rw[Ee az,if_pos rfl]
  ·rw[Et (fun e'=>e e'.symm),if_neg e]
 have hold:∀(k t:Nat),V.aP[k]? =some t->t≠s:=by
  intro k t hk e;subst e;have:=h.at_ k t hk;rw[hn]at this
  cases this
 refine⟨by show(V.num.set s _).length=_;rw[Bp];exact h.len,?_,fun t v ht hv=>?_,fun k t hk=>?_,fun t ht=>?_,h.bH,fun k t m hk hm=>?_⟩
 ·show(V.aP++[s]).length=(V.num.set s (V.aP.length:Int)).countP _
  have e:V.num[s]= -1:=by
   have:=Ae az;rw[hn]at this;exact(C9 this).symm
  rw[List.countP_set az,e,<-h.vI];have:((V.aP.length:Int) != -1)=true:=by simp
  simp[this]
 ·rw[lg]at ht;by_cases e:t=s
  ·rw[if_pos e]at ht
   cases ht;exact⟨V.aP.length,rfl,by show(V.aP++[s])[V.aP.length]? =_;simp[e]⟩
  ·rw[if_neg e]at ht;obtain⟨k,e1,hk⟩:=h.has t v ht hv;exact⟨k,e1,by show(V.aP++[s])[k]? =_;rw[Ay (Ai.1 hk).1];exact hk⟩
 ·rw[lg];have gK:(V.aP++[s])[k]? =some t:=hk;by_cases jP:k<V.aP.length
  ·rw[Ay jP]at gK;rw[if_neg (hold k t gK)];exact h.at_ k t gK
  ·have:k=V.aP.length:=by
    have:=(Ai.1 gK).1;simp at this;omega
   subst this;simp at gK;rw[if_pos gK.symm]
 ·have:t∈V.aP++[s]:=ht;rcases Ap.1 this with h1|h1
  ·exact h.RO t h1
  ·simp at h1;subst h1;exact hR
 ·have gK:(V.aP++[s])[k]? =some t:=hk;by_cases jP:k<V.aP.length
  ·rw[Ay jP]at gK;obtain⟨a1,a2⟩:=h.next k t m gK hm
   refine⟨a1,fun u hu=>?_⟩;obtain⟨k',h1,h2⟩:=a2 u hu;refine⟨k',h1,?_⟩;rw[lg];by_cases e:u.toNat=s
   ·rw[e,hn]at h2;cases h2
   ·rw[if_neg e];exact h2
  ·have:k=V.aP.length:=by
    have:=(Ai.1 gK).1;simp at this;omega
   subst this;simp at gK;subst gK;obtain⟨a1,a2⟩:=hs m hm;refine⟨a1,fun u hu=>?_⟩;obtain⟨k',h2⟩:=a2 u hu;have eE:=h.has u.toNat k' h2 (by omega);obtain⟨k2,e2,h3⟩:=eE;refine⟨k',by have:=(Ai.1 h3).1;omega,?_⟩;rw[lg];by_cases e:u.toNat=s
   ·rw[e,hn]at h2;cases h2
   ·rw[if_neg e];exact h2
theorem mX.put{V V':VS}(h:mX M s V V')(ht:Reach M s t):mX M s V (V'.put t):=by
 obtain⟨⟨l,h1,h2⟩,⟨l',h3⟩⟩:=h;refine⟨⟨l++[t],by show V'.aP++[t]=_;rw[h1,Bu],fun x hx=>?_⟩,⟨l',h3⟩⟩;rcases Ap.1 hx with hx|hx
 ·exact h2 x hx
 ·simp at hx;subst hx;exact ht
theorem VS.SA{V:VS}{s:Nat}(h:s<V.num.length):(V.put s).num[s]? =some (V.aP.length:Int):=Ee h
structure Shut(M:List MS)(R:Nat->Prop):Prop where
 vL:∀s:Nat,R s->eZ M s
 cl:∀s:Nat,R s->∃m,M[s]? =some m/\FT (fun t=>∃j:Nat,t=j/\R j) m
theorem jK.iF{V:VS}(h:jK M R V)(ht:R t):jK M R (V.iF t):=
 ⟨h.len,h.vI,h.has,h.at_,h.RO,fun x hx=>by
   rcases Ap.1 (show x∈V.bH++[t]from hx)with h1|h1
   ·exact h.bH x h1
   ·simp at h1;subst h1;exact ht,fun k s m a b=>⟨fun c=>List.mem_append_left _ ((h.next k s m a b).1 c),(h.next k s m a b).2⟩⟩
theorem t_.kind{s:Nat}{t:Int}{m:MS}(h:t_ M s t)(hm:M[s]? =some m):((m.kind=2\/m.kind=3\/m.kind=4)/\t=m.next)\/(m.kind=4/\t=m.bj):=by
 obtain⟨j,m',hj,h1,h2⟩:=h;have:j=s:=by omega
 subst this;rw[hm]at h1
 cases h1;exact h2
theorem Shut.XR(hS:Shut M R){V:VS}{s:Nat}(hV:jK M R V)(hR:R s):(∃k:Nat,V.num[s]? =some (k:Int))\/V.num[s]? =some (-1):=by
 obtain⟨m,hm,_⟩:=hS.cl s hR;have az:s<V.num.length:=by rw[hV.len];exact(Ai.1 hm).1
 have hv:V.num[s]? =some V.num[s]:=Ae az;by_cases e:V.num[s]= -1
 ·right;rw[hv,e]
 ·left
  obtain⟨k,e1,_⟩:=hV.has s _ hv e;exact⟨k,by rw[hv,e1]⟩
theorem apN(hS:Shut M R)(hE:eZ M s):∀V,jK M R V->(∃j:Nat,s=j/\R j)->
 ∃V',lB M V s V'/\jK M R V'/\mX M s V V'/\(∃k:Nat,V'.num[s.toNat]? =some (k:Int))/\V'.bH.length+V.aP.length<=V.bH.length+V'.aP.length:=by
 induction hE with
 |stop s m hm hk=>
  rintro V hV ⟨j,hj,hR⟩;have:j=s:=by omega
  subst this;rcases hS.XR hV hR with⟨k,h1⟩|hn
  ·exact⟨V,lB.aN V j k h1 (by omega),hV,mX.refl M _ V,⟨k,by simpa using h1⟩,Ab _⟩
  ·have az:=(Ai.1 hn).1;by_cases k1:m.kind=1
   ·obtain⟨m',f_,hc⟩:=hS.cl j hR;rw[hm]at f_;cases f_;obtain⟨t,ht,hRt⟩:=hc.1 (Or.inl k1);have hV':jK M R (V.iF m.next.toNat):=hV.iF (by rw[ht];simpa using hRt);have e1:mX M (j:Int) V (V.iF m.next.toNat):=⟨⟨[],by simp[VS.iF],fun t h=>by simp at h⟩,⟨[m.next.toNat],rfl⟩⟩;refine⟨(V.iF m.next.toNat).put j,lB.take V j m hn hm k1,hV'.put hn hR (fun m' f_=>?_),e1.put (Reach.refl _),⟨V.aP.length,by simpa using(show((V.iF m.next.toNat).put j).num[j]? =some (V.aP.length:Int)from VS.SA (V:=V.iF m.next.toNat) az)⟩,?_⟩
    ·rw[hm]at f_;cases f_;exact⟨fun _=>by show m.next.toNat∈V.bH++[m.next.toNat];simp,fun t ht=>by have:=ht.kind hm;omega⟩
    ·show(V.bH++[m.next.toNat]).length+V.aP.length<=V.bH.length+(V.aP++[j]).length
     simp only[Aj,Ax,Bf];omega
   ·refine⟨V.put j,lB.stop V j m hn hm ⟨k1,hk⟩,hV.put hn hR (fun m' f_=>?_),(mX.refl M _ V).put (Reach.refl _),⟨V.aP.length,by simpa using VS.SA az⟩,?_⟩
    ·rw[hm]at f_;cases f_;exact⟨fun e=>absurd e k1,fun t ht=>by have:=ht.kind hm;omega⟩
    ·show V.bH.length+V.aP.length<=V.bH.length+(V.aP++[j]).length
     simp only[Aj,Ax,Bf];omega
 |one s m hm hk hn ih=>
  rintro V hV ⟨j,hj,hR⟩;have:j=s:=by omega
  subst this;have JC:=(eZ.one j m hm hk hn).adM;have bD:t_ M j m.next:=⟨j,m,rfl,hm,Or.inl ⟨by omega,rfl⟩⟩
  rcases hS.XR hV hR with⟨k,h1⟩|hnu
  ·exact⟨V,lB.aN V j k h1 (by omega),hV,mX.refl M _ V,⟨k,by simpa using h1⟩,Ab _⟩
  ·have az:=(Ai.1 hnu).1;obtain⟨m',f_,hc⟩:=hS.cl j hR;rw[hm]at f_;cases f_;obtain⟨V',v1,v2,v3,⟨k,v4⟩,v5⟩:=ih V hV (hc.1 (by omega));have mF:=hV.YG v2 v3 hnu (JC _ bD);have e3:mX M (j:Int) V V':=(mX.refl M (j:Int) V).trans v3 (Reach.refl _) (Reach.step _ _ _ bD (Reach.refl _));refine⟨V'.put j,lB.one V V' j m hnu hm hk v1,v2.put mF hR (fun m' f_=>?_),e3.put (Reach.refl _),⟨V'.aP.length,by simpa using VS.SA (V:=V') (by rw[v2.len,<-hV.len];exact az)⟩,?_⟩
   ·rw[hm]at f_;cases f_;refine⟨fun e=>by omega,fun t ht=>?_⟩;have:=ht.kind hm;have e:t=m.next:=(by omega);rw[e]
    exact⟨k,v4⟩
   ·show V'.bH.length+V.aP.length<=V.bH.length+(V'.aP++[j]).length
    simp only[Aj,Ax,Bf];omega
 |cM s m hm hk hn ho ih uK=>
  rintro V hV ⟨j,hj,hR⟩;have:j=s:=by omega
  subst this;have JC:=(eZ.cM j m hm hk hn ho).adM;have bD:t_ M j m.next:=⟨j,m,rfl,hm,Or.inl ⟨by omega,rfl⟩⟩
  have NF:t_ M j m.bj:=⟨j,m,rfl,hm,Or.inr ⟨by omega,rfl⟩⟩;rcases hS.XR hV hR with⟨k,h1⟩|hnu
  ·exact⟨V,lB.aN V j k h1 (by omega),hV,mX.refl M _ V,⟨k,by simpa using h1⟩,Ab _⟩
  ·have az:=(Ai.1 hnu).1;obtain⟨m',f_,hc⟩:=hS.cl j hR;rw[hm]at f_;cases f_;obtain⟨V',v1,v2,v3,⟨k,v4⟩,v5⟩:=ih V hV (hc.1 (by omega));obtain⟨V2,w1,w2,w3,⟨k',w4⟩,w5⟩:=uK V' v2 (hc.2 hk);have mF:=v2.YG w2 w3 (hV.YG v2 v3 hnu (JC _ bD)) (JC _ NF);have e3:mX M (j:Int) V V2:=v3.trans w3 (Reach.step _ _ _ bD (Reach.refl _)) (Reach.step _ _ _ NF (Reach.refl _));refine⟨V2.put j,lB.cM V V' V2 j m hnu hm hk v1 w1,w2.put mF hR (fun m' f_=>?_),e3.put (Reach.refl _),⟨V2.aP.length,by simpa using VS.SA (V:=V2) (by rw[w2.len,<-hV.len];exact az)⟩,?_⟩
   ·rw[hm]at f_;cases f_;refine⟨fun e=>by omega,fun t ht=>?_⟩;have:=ht.kind hm;by_cases e:t=m.next
    ·rw[e];exact⟨k,v2.adR w2 w3 v4 (by omega)⟩
    ·have e:t=m.bj:=(by omega);rw[e];exact⟨k',w4⟩
   ·show V2.bH.length+V.aP.length<=V.bH.length+(V2.aP++[j]).length
    simp only[Aj,Ax,Bf];omega
inductive qF(M:List MS):Nat->VS->VS->Prop where
 |done (at_:Nat) (V:VS) (h:V.bH.length<=at_):qF M at_ V V
 |step (at_:Nat) (V V' V2:VS) (t:Nat) (h:V.bH[at_]? =some t) (hv:lB M V t V') (hl:qF M (at_+1) V' V2):qF M at_ V V2
theorem jK.ad0{V:VS}(h:jK M R V):V.aP.length<=M.length:=by
 rw[h.vI,<-h.len];exact Fi
theorem adh(hS:Shut M R):∀(n at_:Nat) (V:VS),M.length+2-at_<=n->jK M R V->at_<=V.bH.length->V.bH.length<=1+V.aP.length->(∀k t:Nat,k<at_->V.bH[k]? =some t->∃u:Nat,V.num[t]? =some (u:Int))->
 ∃V',qF M at_ V V'/\jK M R V'/\(∃l,V'.bH=V.bH++l)/\∀t∈V'.bH,∃u:Nat,V'.num[t]? =some (u:Int)
 |0,at_,V,hn,hV,hle,dy,V_=>by
  have:=hV.ad0;omega
 |n+1,at_,V,hn,hV,hle,dy,V_=>by
  by_cases az:at_<V.bH.length
  ·have ht:V.bH[at_]? =some V.bH[at_]:=Ae az;have hR:=hV.bH _ (A6 az);obtain⟨V',v1,v2,v3,⟨k,v4⟩,v5⟩:=apN hS (hS.vL _ hR) V hV ⟨_,rfl,hR⟩;obtain⟨l,hl⟩:=v3.bH;have dc:V'.bH.length=V.bH.length+l.length:=by rw[hl,Aj]
   obtain⟨V2,w1,w2,⟨l',w3⟩,w4⟩:=adh hS n (at_+1) V' (by omega) v2 (by omega) (by omega) (fun i t hi hit=>by
    have lH:i<V.bH.length:=(by omega);rw[hl,Ay lH]at hit;by_cases e:i=at_
    ·subst e;rw[ht]at hit
     cases hit;exact⟨k,by simpa using v4⟩
    ·obtain⟨u,hu⟩:=V_ i t (by omega) hit;exact⟨u,hV.adR v2 v3 hu (by omega)⟩)
   exact⟨V2,qF.step at_ V V' V2 _ ht v1 w1,w2,⟨l++l',by rw[w3,hl,Bu]⟩,w4⟩
  ·refine⟨V,qF.done at_ V (by omega),hV,⟨[],by simp⟩,fun t ht=>?_⟩;obtain⟨i,hi,rfl⟩:=C6 ht;exact V_ i _ (by omega) (Ae hi)
def VS.first(n start:Nat):VS:=⟨List.replicate n (-1),[],[start]⟩
theorem jK.first(h:R start):jK M R (VS.first M.length start) where
 len:=by simp[VS.first]
 vI:=by simp[VS.first,List.countP_replicate]
 has s v h1 h2:=by
  have:v= -1:=by
   have:=Ce h1;simp[VS.first]at this;exact this.2
  exact absurd this h2
 at_ k s h1:=by simp[VS.first]at h1
 RO s h1:=by simp[VS.first]at h1
 bH t h1:=by simp[VS.first]at h1;subst h1;exact h
 next k s m h1:=by simp[VS.first]at h1
def sorted(M:List MS)(V:VS):List MS:=V.aP.map fun s=>{M.getD s bS with next:=V.num.getD (M.getD s bS).next.toNat 0,bj:=V.num.getD (M.getD s bS).bj.toNat 0}
theorem amu(hS:Shut M R)(h:R start):∃V,qF M 0 (VS.first M.length start) V/\jK M R V/\∀t,(t=start\/∃(s:Nat) (m:MS),s∈V.aP/\M[s]? =some m/\m.kind=1/\t=m.next.toNat)->∃u:Nat,V.num[t]? =some (u:Int):=by
 obtain⟨V,h1,h2,⟨l,h3⟩,h4⟩:=adh hS (M.length+2) 0 (VS.first M.length start) (by omega) (jK.first h) (Al _) (by simp[VS.first]) (fun k t hk=>by omega);refine⟨V,h1,h2,fun t ht=>h4 t ?_⟩;rcases ht with rfl|⟨s,m,hs,hm,hk,rfl⟩
 ·rw[h3];simp[VS.first]
 ·obtain⟨k,gK,q_⟩:=C6 hs;exact(h2.next k s m (by rw[Ae gK,q_]) hm).1 hk
def fy(C:CT):List MS×Ex:=bB C [⟨0,[],false,false,0,0,0,0⟩] (0,0)
theorem ahd{C:CT}(h:C.ok)(hs:C.sz<=1000):∃R,Shut (fy C).1 R/\(∃j:Nat,(fy C).2.2=j/\R j)/\oV (fy C).1/\1<=(fy C).1.length/\(fy C).1.length<=4001:=by
 have hb:=oo C h hs;have hx:df [bS].length (0,0):=by unfold df;simp
 have g:=hb.grow [bS] (0,0);have f:=hb.bN [bS] (0,0);have hn:=CT.zV C h;have ha:=hb.om [bS] (0,0) hx (by intro m hm;simp at hm;subst hm;unfold sP bS;simp);obtain⟨N,hN⟩:=hb.sub [bS] (0,0) hx (fy C).1 (fun j _ _=>rfl)
 have h0:(fy C).1[0]? =some bS:=by
  have:=MA g.2 (j:=0) (by simp);exact this
 have e0:eZ (fy C).1 ((0:Nat):Int):=eZ.stop 0 bS h0 (by simp[bS])
 have zA:∀{t:Int},jV N (0,0) t->∃j:Nat,t=j/\(N j\/j=0):=by
  intro t ht;rcases ht with⟨j,h1,h2⟩|h1|⟨h1,_⟩
  ·exact⟨j,h1,Or.inl h2⟩
  ·exact⟨0,h1,Or.inr rfl⟩
  ·exact⟨0,h1,Or.inr rfl⟩
 refine⟨fun j=>N j\/j=0,⟨fun s hs=>?_,fun s hs=>?_⟩,zA hN.sq,ha,g.1,?_⟩
 ·rcases hs with hs|rfl
  ·exact hN.es e0 (Or.inr e0) s hs
  ·exact e0
 ·rcases hs with hs|rfl
  ·obtain⟨m,h1,h2⟩:=hN.cl s hs;exact⟨m,h1,h2.mono (fun t ht=>zA ht)⟩
  ·exact⟨bS,h0,fun h=>by simp[bS]at h,fun h=>by simp[bS]at h⟩
 ·show(bB C [bS] (0,0)).1.length<=4001
  simp only[Ax,Bf]at f;omega
