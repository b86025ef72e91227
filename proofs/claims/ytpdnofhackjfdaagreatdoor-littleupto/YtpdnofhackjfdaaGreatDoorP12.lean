/- What the states  -/
import Derived.Test.YtpdnofhackjfdaaGreatDoorP10
import Derived.Test.YtpdnofhackjfdaaGreatDoorP11
set_option linter.all false
set_option maxRecDepth 100000
namespace Go.Proofs.YtpdnofhackjfdaaGreatDoor
open Go.Proofs.Tryz
variable {f g:Bl} {A B:aH×aH} {sf sg:aH×aH->aH×aH} {a b s:Int} {gs:List Int} {M st:List MS} {c d i start t:Nat} {R:Nat->Prop} {x:TX}
abbrev ik:=Option (Nat×List Int)
inductive cR(M:List MS)(x:TX):Int->Nat->List Int->ik->Prop where
 |done (s:Nat) (m:MS) (i:Nat) (gs:List Int) (h:M[s]? =some m) (hk:m.kind=0):cR M x s i gs (some (i,gs))
 |js (s:Nat) (m:MS) (i:Nat) (gs:List Int) (r:ik) (h:M[s]? =some m) (hk:m.kind=1) (ht:(decide (i<x.l.length)&&eV m.sp m.fo m.nt (x.bl i))=true) (hn:cR M x m.next (i+1) gs r):cR M x s i gs r
 |ja (s:Nat) (m:MS) (i:Nat) (gs:List Int) (h:M[s]? =some m) (hk:m.kind=1) (ht:(decide (i<x.l.length)&&eV m.sp m.fo m.nt (x.bl i))=false):cR M x s i gs none
 |RI (s:Nat) (m:MS) (i:Nat) (gs:List Int) (r:ik) (h:M[s]? =some m) (hk:m.kind=2) (he:EO x m.eE i=true) (hn:cR M x m.next i gs r):cR M x s i gs r
 |RH (s:Nat) (m:MS) (i:Nat) (gs:List Int) (h:M[s]? =some m) (hk:m.kind=2) (he:EO x m.eE i=false):cR M x s i gs none
 |mark (s:Nat) (m:MS) (i:Nat) (gs:List Int) (r:ik) (h:M[s]? =some m) (hk:m.kind=3) (hn:cR M x m.next i (gs.set m.slot.toNat (x.aY i)) r):cR M x s i gs r
 |zY (s:Nat) (m:MS) (i:Nat) (gs:List Int) (v:Nat×List Int) (h:M[s]? =some m) (hk:m.kind=4) (hn:cR M x m.next i gs (some v)):cR M x s i gs (some v)
 |zX (s:Nat) (m:MS) (i:Nat) (gs:List Int) (r:ik) (h:M[s]? =some m) (hk:m.kind=4) (hn:cR M x m.next i gs none) (ho:cR M x m.a_ i gs r):cR M x s i gs r
theorem cR.JJ{r:ik}(h:cR M x s i gs r):0<=s:=by
 cases h<;>omega
def kM(M:List MS)(x:TX)(s:Int)(i:Nat)(gs:List Int)(r:ik):Prop:=(s= -1/\r=none)\/cR M x s i gs r
theorem kM.iC{r:ik}(h:kM M x s i gs r)(hs:s≠ -1):cR M x s i gs r:=h.resolve_left fun e=>hs e.1
theorem kM.none{r:ik}(h:kM M x s i gs r)(hs:s= -1):r=Option.none:=by
 rcases h with h|h
 ·exact h.2
 ·have:=h.JJ;omega
structure eL(x:TX)(f:Bl)(Xk:aH×aH->aH×aH):Prop where
 rT:∀st nx,da st.length nx->nx.1= -1->(f st nx).2.1= -1->∀(K:aH×aH),(∀i gs,K.1 i gs=none)->∀i gs,(Xk K).1 i gs=none
 iC:∀st nx,da st.length nx->∀M,gL M st.length (f st nx).1.length (f st nx).1->∀(K:aH×aH) (i:Nat),i<=x.l.length->
  ((∀gs,kM M x nx.1 i gs (K.1 i gs))->(∀j,i<j->j<=x.l.length->∀gs,cR M x nx.2 j gs (K.2 j gs))->∀gs,kM M x (f st nx).2.1 i gs ((Xk K).1 i gs))/\
  ((∀j,i<=j->j<=x.l.length->∀gs,cR M x nx.2 j gs (K.2 j gs))->∀gs,cR M x (f st nx).2.2 i gs ((Xk K).2 i gs))
theorem eL.id(x:TX):eL x (fun st nx=>(st,nx)) (fun p=>p) where
 rT st nx h h1 h2 K hK:=hK
 iC st nx h M hM K i hi:=⟨fun a _=>a,fun a gs=>a i (Ab _) hi gs⟩
theorem eL.comp(hf:eL x f sf)(hg:eL x g sg)(bf:BS f c)(bg:BS g d)
 (up:∀st nx,da st.length nx->nx.1≠ -1->(f st nx).2.1≠ -1):eL x (fun st nx=>f (g st nx).1 (g st nx).2) (fun p=>sf (sg p)) where
 rT st nx h h1 h2 K hK:=by
  have hx:=bg.fI st nx h;by_cases e:(g st nx).2.1= -1
  ·exact hf.rT _ _ hx e h2 (sg K) (hg.rT st nx h h1 e K hK)
  ·exact absurd h2 (up _ _ hx e)
 iC st nx h M hM K i hi:=by
  have a:=bg.grow st nx;have b:=bf.grow (g st nx).1 (g st nx).2;have hMg:gL M st.length (g st nx).1.length (g st nx).1:=hM.left b.2 b.1;have hMf:gL M (g st nx).1.length (f (g st nx).1 (g st nx).2).1.length (f (g st nx).1 (g st nx).2).1:=hM.right a.1;have rg:=fun j hj=>hg.iC st nx h M hMg K j hj
  have rf:=hf.iC (g st nx).1 (g st nx).2 (bg.fI _ _ h) M hMf (sg K) i hi;refine⟨fun h3 h4=>?_,fun h3=>?_⟩
  ·exact rf.1 ((rg i hi).1 h3 h4) (fun j j1 j2=>(rg j j2).2 (fun k k1 k2=>h4 k (by omega) k2))
  ·exact rf.2 (fun j j1 j2=>(rg j j2).2 (fun k k1 k2=>h3 k (by omega) k2))
def Up(f:Bl):Prop:=∀st nx,da st.length nx->nx.1≠ -1->(f st nx).2.1≠ -1
theorem eL.take(x:TX)(sp:bF)(fo nt:Bool):eL x (fun st nx=>(st++[nT sp fo nt nx.2],((st.length:Int),(st.length:Int)))) (fun p=>(qW x sp fo nt p.2,qW x sp fo nt p.2)) where
 rT st nx h h1 h2:=by simp only at h2;omega
 iC st nx h M hM K i hi:=by
  have hm:M[st.length]? =some (nT sp fo nt nx.2):=hM.at (Ab _) (by simp) (yk _ _)
  have key:(∀j,i<j->j<=x.l.length->∀gs,cR M x nx.2 j gs (K.2 j gs))->∀gs,cR M x (st.length:Int) i gs (qW x sp fo nt K.2 i gs):=by
   intro h4 gs;unfold qW;by_cases c:(decide (i<x.l.length)&&eV sp fo nt (x.bl i))=true
   ·rw[if_pos c];have aw:i<x.l.length:=by simp at c;exact c.1
    exact cR.js _ _ _ _ _ hm rfl c (h4 (i+1) (by omega) aw gs)
   ·rw[if_neg c];exact cR.ja _ _ _ _ hm rfl (En.2 c)
  exact⟨fun _ h4 gs=>Or.inr (key h4 gs),fun h4 gs=>key (fun j j1 j2=>h4 j (by omega) j2) gs⟩
theorem eL.rR{s:Int->MS}{L:aH->aH}(hz:∀k i,(∀gs,k i gs=none)->∀gs,L k i gs=none)
 (hl:∀(M:List MS) (a:Nat) (n:Int) (k:aH) (i:Nat),i<=x.l.length->M[a]? =some (s n)->(∀gs,cR M x n i gs (k i gs))->∀gs,cR M x a i gs (L k i gs)):eL x (fe s) (fun p=>(L p.1,L p.2)) where
 rT st nx h h1 h2 K hK i gs:=hz _ i (hK i) gs
 iC st nx h M hM K i hi:=by
  have h0:=h;unfold da at h0;unfold fe at hM⊢;by_cases c1:nx.1=nx.2
  ·rw[if_pos c1]at hM⊢;have hm:M[st.length]? =some (s nx.2):=hM.at (Ab _) (by simp) (yk _ _);exact⟨fun h3 _ gs=>Or.inr (hl M _ _ K.1 i hi hm (fun gs=>by have:=(h3 gs).iC (by omega);rw[c1]at this;exact this) gs),fun h3 gs=>hl M _ _ K.2 i hi hm (h3 i (Ab _) hi) gs⟩
  ·rw[if_neg c1]at hM⊢;by_cases c2:nx.1= -1
   ·rw[if_pos c2]at hM⊢;have hm:M[st.length]? =some (s nx.2):=hM.at (Ab _) (by simp) (yk _ _);exact⟨fun h3 _ gs=>Or.inl ⟨rfl,hz _ i (fun gs=>(h3 gs).none c2) gs⟩,fun h3 gs=>hl M _ _ K.2 i hi hm (h3 i (Ab _) hi) gs⟩
   ·rw[if_neg c2]at hM⊢;have hm:M[st.length]? =some (s nx.2):=hM.at (Ab _) (by simp) (by simp);have Vk:M[st.length+1]? =some (s nx.1):=hM.at (by omega) (by simp) (by simp);exact⟨fun h3 _ gs=>Or.inr (hl M (st.length+1) _ K.1 i hi Vk (fun gs=>(h3 gs).iC c2) gs),fun h3 gs=>hl M _ _ K.2 i hi hm (h3 i (Ab _) hi) gs⟩
theorem eL.qV(x:TX)(e:Int):eL x (fe (se e)) (NH x e):=
 eL.rR (L:=zc x e) (fun k i h gs=>by unfold zc;split<;>simp[h]) (fun M a n k i hi hm h gs=>by
  unfold zc;by_cases c:EO x e i=true
  ·rw[if_pos c];exact cR.RI _ _ _ _ _ hm rfl c (h gs)
  ·rw[if_neg c];exact cR.RH _ _ _ _ hm rfl (En.2 c))
theorem eL.mark(x:TX)(n:Int)(k:Nat)(hk:n.toNat=k):eL x (fe (iB n)) (Hb x k):=
 eL.rR (L:=yM x k) (fun c i h gs=>h _) (fun M a m c i hi hm h gs=>by
  refine cR.mark _ _ _ _ _ hm rfl ?_;show cR M x m i (gs.set n.toNat (x.aY i)) _
  rw[hk];exact h _)
theorem Pk{A B:aH}(hM:gL M st.length (dL st a b).1.length (dL st a b).1)(ha:kM M x a i gs (A i gs))(hb:kM M x b i gs (B i gs)):
 kM M x (dL st a b).2 i gs (g_ A B i gs):=by
 unfold dL at hM⊢;unfold g_;by_cases c1:a= -1
 ·rw[if_pos c1,ha.none c1];exact hb
 ·rw[if_neg c1]at hM⊢;by_cases c2:b= -1
  ·rw[if_pos c2,hb.none c2]
   cases e:A i gs with
   |none=>simp only;rw[e]at ha;exact ha
   |some v=>simp only;rw[e]at ha;exact ha
  ·rw[if_neg c2]at hM⊢;have hm:M[st.length]? =some (kt a b):=hM.at (Ab _) (by simp) (yk _ _);have ra:=ha.iC c1;have rb:=hb.iC c2
   cases e:A i gs with
   |none=>simp only;rw[e]at ra;exact Or.inr (cR.zX _ _ _ _ _ hm rfl ra rb)
   |some v=>simp only;rw[e]at ra;exact Or.inr (cR.zY _ _ _ _ _ hm rfl ra)
theorem Pm{f s:Ex}(hM:gL M st.length (gC st f s).1.length (gC st f s).1):
 (kM M x f.1 i gs (A.1 i gs)->kM M x s.1 i gs (B.1 i gs)->kM M x (gC st f s).2.1 i gs ((ou A B).1 i gs))/\
 (kM M x f.2 i gs (A.2 i gs)->kM M x s.2 i gs (B.2 i gs)->kM M x (gC st f s).2.2 i gs ((ou A B).2 i gs)):=by
 unfold gC at hM⊢;by_cases c:f.1=f.2/\s.1=s.2
 ·rw[if_pos c]at hM⊢;refine⟨fun a b=>?_,fun a b=>Pk hM a b⟩;rw[c.1]at a;rw[c.2]at b;exact Pk hM a b
 ·rw[if_neg c]at hM⊢;have g1:=tQ st f.2 s.2;have g2:=tQ (dL st f.2 s.2).1 f.1 s.1;refine⟨fun a b=>Pk (hM.right g1.1) a b,fun a b=>Pk (hM.left g2.2.1 g2.1) a b⟩
theorem aaC{f s:Ex}(lz:Bool)(hM:gL M st.length (dj lz st f s).1.length (dj lz st f s).1):
 (kM M x f.1 i gs (A.1 i gs)->kM M x s.1 i gs (B.1 i gs)->kM M x (dj lz st f s).2.1 i gs ((qq lz A B).1 i gs))/\
 (kM M x f.2 i gs (A.2 i gs)->kM M x s.2 i gs (B.2 i gs)->kM M x (dj lz st f s).2.2 i gs ((qq lz A B).2 i gs)):=by
 unfold dj qq at*
 cases lz
 ·simp only[Aq,if_false]at*;exact Pm hM
 ·simp only[if_true]at*;exact⟨fun a b=>(Pm hM).1 b a,fun a b=>(Pm hM).2 b a⟩
theorem T2{A B:aH}(ha:A i gs=none)(hb:B i gs=none):g_ A B i gs=none:=by unfold g_;rw[ha];exact hb
theorem aay(lz:Bool)(ha:A.1 i gs=none)(hb:B.1 i gs=none):(qq lz A B).1 i gs=none:=by
 unfold qq;cases lz
 ·exact T2 ha hb
 ·exact T2 hb ha
theorem aaV(h:(dL st a b).2= -1):a= -1/\b= -1:=by
 unfold dL at h;split at h
 ·exact⟨by assumption,h⟩
 ·split at h
  ·exact⟨h,by assumption⟩
  ·simp only at h;omega
theorem Pl{f s:Ex}(h:(gC st f s).2.1= -1):f.1= -1/\s.1= -1:=by
 unfold gC at h;split at h
 ·next c=>have:=aaV h;omega
 ·exact aaV h
theorem Pd{f s:Ex}(lz:Bool)(h:(dj lz st f s).2.1= -1):f.1= -1/\s.1= -1:=by
 unfold dj at h;cases lz
 ·exact Pl h
 ·exact(Pl h).symm
theorem eL.aE(hf:eL x f sf)(hg:eL x g sg)(bf:BS f c)(bg:BS g d):
 eL x (fun st nx=>gC (f (g st nx).1 nx).1 (f (g st nx).1 nx).2 (g st nx).2) (fun p=>ou (sf p) (sg p)) where
 rT st nx h h1 h2 K hK i gs:=by
  have e:=Pl h2;have a:=bg.grow st nx;exact T2 (hf.rT _ _ (h.mono a.1) h1 e.1 K hK i gs) (hg.rT _ _ h h1 e.2 K hK i gs)
 iC st nx h M hM K i hi:=by
  have a:=bg.grow st nx;have b:=bf.grow (g st nx).1 nx;have e:=ET (f (g st nx).1 nx).1 (f (g st nx).1 nx).2 (g st nx).2;have abh:gL M st.length (f (g st nx).1 nx).1.length (f (g st nx).1 nx).1:=hM.left e.2.1 e.1;have rg:=hg.iC st nx h M (abh.left b.2 b.1) K i hi;have rf:=hf.iC (g st nx).1 nx (h.mono a.1) M (abh.right a.1) K i hi;have xf:=bf.fI (g st nx).1 nx (h.mono a.1);have xg:=bg.fI st nx h;have r:=fun gs=>Pm (gs:=gs) (i:=i) (x:=x) (A:=sf K) (B:=sg K) (hM.right (a:=(f (g st nx).1 nx).1) (Bb a.1 b.1))
  refine⟨fun h3 h4 gs=>(r gs).1 (rf.1 h3 h4 gs) (rg.1 h3 h4 gs),fun h3 gs=>((r gs).2 (Or.inr (rf.2 h3 gs)) (Or.inr (rg.2 h3 gs))).iC ?_⟩;have ok:=IQ (st:=(f (g st nx).1 nx).1) (f:=(f (g st nx).1 nx).2) (s:=(g st nx).2) xf.lU (xg.mono b.1).lU (Or.inl (by have:=xf.1;omega));have:=ok.1.1;omega
theorem Up.comp(hf:Up f)(hg:Up g)(bg:BS g d):Up (fun st nx=>f (g st nx).1 (g st nx).2):=fun st nx h h1=>hf _ _ (bg.fI _ _ h) (hg _ _ h h1)
theorem Up.aE(hf:Up f)(bg:BS g d):Up (fun st nx=>gC (f (g st nx).1 nx).1 (f (g st nx).1 nx).2 (g st nx).2):=fun st nx h h1 e=>
 hf _ _ (h.mono (bg.grow st nx).1) h1 (Pl e).1
theorem Up.id:Up (fun st nx=>(st,nx)):=fun st nx h h1=>h1
theorem Up.take(sp:bF)(fo nt:Bool):Up (fun st nx=>(st++[nT sp fo nt nx.2],((st.length:Int),(st.length:Int)))):=fun st nx h h1 e=>by simp only at e;omega
theorem Up.rR(s:Int->MS):Up (fe s):=fun st nx h h1 e=>by
 unfold fe at e;rw[if_neg h1]at e;split at e
 ·simp only at e;omega
 ·simp only at e;omega
theorem Up.gK(hf:Up f)(bf:BS f c):∀m,Up (nz f m)
 |0=>Up.id
 |m+1=>(Up.gK hf bf m).comp hf bf
theorem QL(f:aH×aH->aH×aH):∀(m:Nat) (p:aH×aH),oF f m (f p)=oF f (m+1) p
 |0,p=>rfl
 |m+1,p=>by
  show f (oF f m (f p))=f (oF f (m+1) p)
  rw[QL f m p]
theorem eL.gK(hf:eL x f sf)(bf:BS f c)(up:Up f):∀m,eL x (nz f m) (oF sf m)
 |0=>eL.id x
 |m+1=>by
  have:=(eL.gK hf bf up m).comp hf (bf.gK m) bf (up.gK bf m);have e:(fun p=>oF sf m (sf p))=oF sf (m+1):=funext fun p=>QL sf m p
  rw[e]at this;exact this
theorem Q7(lz:Bool)(hf:eL x f sf)(bf:BS f c)(up:Up f)(nx:Ex):∀(m:Nat) (st:List MS) (al:Ex),da st.length nx->da st.length al->
 (nx.1= -1->(fK f lz nx m st al).2.1= -1->al.1= -1/\∀(K Ka:aH×aH),(∀i gs,K.1 i gs=none)->(∀i gs,Ka.1 i gs=none)->∀i gs,(oF (yQ sf lz K) m Ka).1 i gs=none)/\
 (al.1≠ -1->(fK f lz nx m st al).2.1≠ -1)/\
 (∀M,gL M st.length (fK f lz nx m st al).1.length (fK f lz nx m st al).1->∀(K Ka:aH×aH) (i:Nat),i<=x.l.length->
   ((∀gs,kM M x nx.1 i gs (K.1 i gs))->(∀j,i<j->j<=x.l.length->∀gs,cR M x nx.2 j gs (K.2 j gs))->(∀gs,kM M x al.1 i gs (Ka.1 i gs))->(∀j,i<j->j<=x.l.length->∀gs,cR M x al.2 j gs (Ka.2 j gs))->
     ∀gs,kM M x (fK f lz nx m st al).2.1 i gs ((oF (yQ sf lz K) m Ka).1 i gs))/\
   ((∀j,i<=j->j<=x.l.length->∀gs,cR M x nx.2 j gs (K.2 j gs))->(∀j,i<=j->j<=x.l.length->∀gs,cR M x al.2 j gs (Ka.2 j gs))->∀gs,cR M x (fK f lz nx m st al).2.2 i gs ((oF (yQ sf lz K) m Ka).2 i gs)))
 |0,st,al,h,ha=>⟨fun _ e=>⟨e,fun K Ka _ Uv=>Uv⟩,fun h2=>h2,fun M hM K Ka i hi=>⟨fun _ _ h3 _ gs=>h3 gs,fun _ h3 gs=>h3 i (Ab _) hi gs⟩⟩
 |m+1,st,al,h,ha=>by
  have g1:=bf.grow st al;have g2:=tP lz (f st al).1 (f st al).2 nx;have x1:=bf.fI st al ha;have ok:=yg (st:=(f st al).1) lz (f:=(f st al).2) (s:=nx) x1.lU (h.mono g1.1).lU (Or.inl (by have:=x1.1;omega));have hx':da (dj lz (f st al).1 (f st al).2 nx).1.length nx:=h.mono (by omega);have ih:=Q7 lz hf bf up nx m (dj lz (f st al).1 (f st al).2 nx).1 (dj lz (f st al).1 (f st al).2 nx).2 hx' ok.1;have gm:=((bf.nR lz m).grow nx (dj lz (f st al).1 (f st al).2 nx).1 (dj lz (f st al).1 (f st al).2 nx).2);refine⟨fun h1 h3=>?_,fun h2=>?_,fun M hM K Ka i hi=>?_⟩
  ·have yl:(fK f lz nx m (dj lz (f st al).1 (f st al).2 nx).1 (dj lz (f st al).1 (f st al).2 nx).2).2.1= -1:=h3;have e:=ih.1 h1 yl;have e1:=(Pd lz e.1).1;have wU:al.1= -1:=(Dw fun c=>up st al ha c e1);refine⟨wU,fun K Ka hK Uv i gs=>?_⟩;rw[<-QL];exact e.2 K _ hK (fun i gs=>aay lz (hf.rT st al ha wU e1 Ka Uv i gs) (hK i gs)) i gs
  ·exact ih.2.1 fun e=>up st al ha h2 (Pd lz e).1
  ·have tS:gL M st.length (fK f lz nx m (dj lz (f st al).1 (f st al).2 nx).1 (dj lz (f st al).1 (f st al).2 nx).2).1.length (fK f lz nx m (dj lz (f st al).1 (f st al).2 nx).1 (dj lz (f st al).1 (f st al).2 nx).2).1:=hM;have hE:gL M st.length (dj lz (f st al).1 (f st al).2 nx).1.length (dj lz (f st al).1 (f st al).2 nx).1:=tS.left gm.2 gm.1;have hF:gL M st.length (f st al).1.length (f st al).1:=hE.left g2.2.1 g2.1;have rf:=(fun j hj=>hf.iC st al ha M hF Ka j hj);have re:=fun j gs=>aaC (gs:=gs) (i:=j) (x:=x) (A:=sf Ka) (B:=K) lz (hE.right (a:=(f st al).1) g1.1)
   have mv:∀j,j<=x.l.length->(∀k,j<=k->k<=x.l.length->∀gs,cR M x nx.2 k gs (K.2 k gs))->(∀k,j<=k->k<=x.l.length->∀gs,cR M x al.2 k gs (Ka.2 k gs))->∀gs,cR M x (dj lz (f st al).1 (f st al).2 nx).2.2 j gs ((yQ sf lz K Ka).2 j gs):=fun j hj a1 a2 gs=>
    ((re j gs).2 (Or.inr ((rf j hj).2 a2 gs)) (Or.inr (a1 j (Ab _) hj gs))).iC (by have:=ok.1.1;omega)
   have r:=ih.2.2 M (tS.right (by omega)) K (yQ sf lz K Ka) i hi;rw[<-QL];refine⟨fun h3 h4 h5 h6 gs=>?_,fun h3 h4 gs=>?_⟩
   ·exact r.1 h3 h4 (fun gs=>(re i gs).1 ((rf i hi).1 h5 h6 gs) (h3 gs)) (fun j j1 j2 gs=>mv j j2 (fun k k1 k2=>h4 k (by omega) k2) (fun k k1 k2=>h6 k (by omega) k2) gs) gs
   ·exact r.2 h3 (fun j j1 j2 gs=>mv j j2 (fun k k1 k2=>h3 k (by omega) k2) (fun k k1 k2=>h4 k (by omega) k2) gs) gs
theorem eL.nR(lz:Bool)(hf:eL x f sf)(bf:BS f c)(up:Up f)(m:Nat):eL x (fun st nx=>fK f lz nx m st nx) (fun p=>oF (yQ sf lz p) m p) where
 rT st nx h h1 h2 K hK:=((Q7 lz hf bf up nx m st nx h h).1 h1 h2).2 K K hK hK
 iC st nx h M hM K i hi:=by
  have r:=(Q7 lz hf bf up nx m st nx h h).2.2 M hM K K i hi;exact⟨fun a b=>r.1 a b a b,fun a=>r.2 a a⟩
theorem Up.nR(lz:Bool)(hf:eL x f sf)(bf:BS f c)(up:Up f)(m:Nat):Up (fun st nx=>fK f lz nx m st nx):=fun st nx h h1=>
 (Q7 lz hf bf up nx m st nx h h).2.1 h1
theorem Up.loop(f:Bl)(lz:Bool):Up (ny f lz):=fun st nx h h1 e=>by
 unfold ny qm at e;exact h1 (Pd lz e).2
theorem eL.loop(lz:Bool)(hf:eL x f sf)(bf:BS f c)(hl:dF x.l.length sf):eL x (ny f lz) (uu x sf lz) where
 rT st nx h h1 h2 K hK i gs:=by
  unfold ny qm at h2;have e:=Pd lz h2;have hx:da (st++[bN]).length (-1,(st.length:Int)):=by simp only[Aj,Av,A8];unfold da;simp only;omega
  unfold uu;exact aay lz (hf.rT _ _ hx rfl e.1 (fT,_) (fun _ _=>rfl) i gs) (hK i gs)
 iC st nx h M hM K i hi:=by
  have hln:(st++[bN]).length=st.length+1:=by simp
  have hx:da (st++[bN]).length (-1,(st.length:Int)):=by rw[hln];unfold da;simp only;omega
  have g1:=bf.grow (st++[bN]) (-1,st.length);have x1:=bf.fI (st++[bN]) (-1,st.length) hx;have ns:=hf.rT (st++[bN]) (-1,st.length) hx rfl;have rf:=hf.iC (st++[bN]) (-1,st.length) hx M;have n2:nx.2≠ -1:=by have:=h.1;omega
  unfold ny qm at hM⊢;generalize hP:f (st++[bN]) (-1,st.length)=P at*;obtain⟨S,t,u⟩:=P;simp only[Bm]at hM g1 x1 ns rf⊢;have g2:=tP lz S (t,t) nx;by_cases ht:t= -1
  ·subst ht;rw[aaA]at hM⊢;have z:∀(A:aH) i gs,(sf (fT,A)).1 i gs=none:=fun A i gs=>ns rfl (fT,A) (fun _ _=>rfl) i gs
   have e1:∀i gs,(uu x sf lz K).1 i gs=K.1 i gs:=fun i gs=>by
    unfold uu qq
    cases lz
    ·simp only[Aq,if_false,ou,g_];rw[z]
    ·simp only[if_true,ou,g_];rw[z];cases K.1 i gs<;>rfl
   have e2:∀i gs,(uu x sf lz K).2 i gs=K.2 i gs:=fun i gs=>by
    unfold uu qq
    cases lz
    ·simp only[Aq,if_false,ou,g_];rw[z]
    ·simp only[if_true,ou,g_];rw[z];cases K.2 i gs<;>rfl
   exact⟨fun h3 _ gs=>by rw[e1];exact h3 gs,fun h3 gs=>by rw[e2];exact h3 i (Ab _) hi gs⟩
  ·have em:=aaz lz S (t:=t) (nx:=nx) ht n2;have er:=(fun j gs=>aaC (M:=M) (st:=S) (f:=(t,t)) (s:=nx) (gs:=gs) (i:=j) (x:=x) (A:=((sf (fT,tM x.l.length sf lz K.2)).1,(sf (fT,tM x.l.length sf lz K.2)).1)) (B:=K) lz);have ok:=yg (st:=S) lz (f:=(t,t)) (s:=nx) ⟨x1.2,x1.2⟩ (h.mono (by omega)).lU (Or.inr n2);generalize hE:dj lz S (t,t) nx=E at*
   have mU:E.1.getD E.2.2.toNat bN=(if lz then kt nx.2 t else kt t nx.2):=by
    rw[em.1,Ay,Af,em.2];rfl
   rw[mU]at hM
   have hA:M[st.length]? =some (if lz then kt nx.2 t else kt t nx.2):=by
    rw[hM st.length (Ab _) (by omega)];exact Ef (by omega)
   have tS:gL M (st.length+1) E.1.length E.1:=fun j h1 h2=>by
    rw[hM j (by omega) h2,Er (by omega)]
   have hMS:gL M (st++[bN]).length S.length S:=by rw[hln];exact gL.left tS g2.2.1 g2.1
   have hME:gL M S.length E.1.length E.1:=fun j h1 h2=>tS j (by omega) h2
   have l8:∀j,j<=x.l.length->(∀k,j<k->k<=x.l.length->∀gs,cR M x (st.length:Int) k gs (tM x.l.length sf lz K.2 k gs))->∀gs,cR M x t j gs ((sf (fT,tM x.l.length sf lz K.2)).1 j gs):=fun j hj hk gs=>
    ((rf hMS (fT,tM x.l.length sf lz K.2) j hj).1 (fun gs=>Or.inl ⟨rfl,rfl⟩) hk gs).iC ht
   have again:∀d j,x.l.length-j<=d->j<=x.l.length->(∀k,j<=k->k<=x.l.length->∀gs,cR M x nx.2 k gs (K.2 k gs))->∀gs,cR M x (st.length:Int) j gs (tM x.l.length sf lz K.2 j gs):=by
    intro d;induction d with
    |zero=>
     intro j hd hj hk gs;have rt:=l8 j hj (fun k k1 k2=>by omega) gs;have rn:=hk j (Ab _) hj gs;rw[ZL hl lz K.2 j hj gs]
     cases lz
     ·simp only[Aq,if_false]at hA⊢;unfold g_
      cases e:(sf (fT,tM x.l.length sf false K.2)).1 j gs with
      |none=>rw[e]at rt;exact cR.zX _ _ _ _ _ hA rfl rt rn
      |some v=>rw[e]at rt;exact cR.zY _ _ _ _ _ hA rfl rt
     ·simp only[if_true]at hA⊢;unfold g_
      cases e:K.2 j gs with
      |none=>rw[e]at rn;exact cR.zX _ _ _ _ _ hA rfl rn rt
      |some v=>rw[e]at rn;exact cR.zY _ _ _ _ _ hA rfl rn
    |succ d ih=>
     intro j hd hj hk gs;have rt:=l8 j hj (fun k k1 k2 gs=>ih k (by omega) k2 (fun k' a b=>hk k' (by omega) b) gs) gs;have rn:=hk j (Ab _) hj gs;rw[ZL hl lz K.2 j hj gs]
     cases lz
     ·simp only[Aq,if_false]at hA⊢;unfold g_
      cases e:(sf (fT,tM x.l.length sf false K.2)).1 j gs with
      |none=>rw[e]at rt;exact cR.zX _ _ _ _ _ hA rfl rt rn
      |some v=>rw[e]at rt;exact cR.zY _ _ _ _ _ hA rfl rt
     ·simp only[if_true]at hA⊢;unfold g_
      cases e:K.2 j gs with
      |none=>rw[e]at rn;exact cR.zX _ _ _ _ _ hA rfl rn rt
      |some v=>rw[e]at rn;exact cR.zY _ _ _ _ _ hA rfl rn
   refine⟨fun h3 h4 gs=>?_,fun h3 gs=>?_⟩
   ·exact(er i gs hME).1 (Or.inr (l8 i hi (fun k k1 k2 gs=>again _ k (Ab _) k2 (fun k' a b=>h4 k' (by omega) b) gs) gs)) (h3 gs)
   ·refine((er i gs hME).2 (Or.inr (l8 i hi (fun k k1 k2 gs=>again _ k (Ab _) k2 (fun k' a b=>h3 k' (by omega) b) gs) gs)) (Or.inr (h3 i (Ab _) hi gs))).iC ?_;have:=ok.1.1;omega
theorem eL.wh(hf:eL x f sf)(bf:BS f c)(hl:dF x.l.length sf)(up:Up f)(lo hi:Int)(lz:Bool):eL x (nA f lo hi lz) (zh x sf lo hi lz):=by
 unfold nA zh;by_cases e:hi= -1
 ·simp only[e,if_true];exact(hf.gK bf up lo.toNat).comp (hf.loop lz bf hl) (bf.gK _) (bf.loop lz) (up.gK bf _)
 ·simp only[e,if_false];exact(hf.gK bf up lo.toNat).comp (hf.nR lz bf up (hi-lo).toNat) (bf.gK _) (bf.nR lz _).bs (up.gK bf _)
theorem Up.wh(hf:eL x f sf)(bf:BS f c)(up:Up f)(lo hi:Int)(lz:Bool):Up (nA f lo hi lz):=by
 unfold nA;by_cases e:hi= -1
 ·simp only[e,if_true];exact(up.gK bf _).comp (Up.loop f lz) (bf.loop lz)
 ·simp only[e,if_false];exact(up.gK bf _).comp (Up.nR lz hf bf up _) (bf.nR lz _).bs
mutual
def CT.gN(G:Int):CT->Prop
 |.node k sp fo nt ed gr lo hi lz cP=>0<=gr/\gr<=G/\CT.fu G cP
def CT.fu(G:Int):List CT->Prop
 | []=>True
 |c::cs=>CT.gN G c/\CT.fu G cs
end
mutual
theorem Lg(x:TX)(G:Int):∀C:CT,C.ok->C.sz<=1000->C.gN G->eL x (bu C) (pZ x C)/\Up (bu C)
 |.node k sp fo nt ed gr lo hi lz cP,h,hs,hg=>by
  unfold CT.ok at h;unfold CT.gN at hg;obtain⟨h1,h2,h3,h5,h6⟩:=h;obtain⟨g1,g2,g3⟩:=hg;have hn:=CT.wg cP h6;have sL:=afU x G cP h6;have mg:=ZR cP h6;have FE:=ZT x G cP h6;have E_:=ZO x G cP h6;have aky:=aet x cP;unfold CT.sz at hs;unfold bu pZ;by_cases k0:k=0
  ·simp only[k0,if_true,true_or]at hs⊢;exact⟨eL.take x sp fo nt,Up.take sp fo nt⟩
  ·by_cases k1:k=1
   ·simp only[k1,if_true,true_or,or_true,Int.reduceEq,if_false]at hs⊢;exact⟨eL.qV x ed,Up.rR _⟩
   ·by_cases k2:k=2
    ·simp only[k2,if_true,or_true,Int.reduceEq,if_false]at hs⊢;have hO:=sL (by omega) (h2 (Or.inl k2)) g3;have bO:=mg (by omega) (h2 (Or.inl k2));by_cases g0:gr=0
     ·simp only[g0,if_true];exact hO
     ·simp only[g0,if_false];have m1:=eL.mark x (2*(gr-1)+1) (2*(gr.toNat-1)+1) (by omega);have m0:=eL.mark x (2*(gr-1)) (2*(gr.toNat-1)) (by omega);have b1:=BS.mark (2*(gr-1)+1);have u1:Up (fe (iB (2*(gr-1)+1))):=Up.rR _;exact⟨m0.comp (hO.1.comp m1 bO b1 hO.2) (BS.mark _) (bO.comp b1) (Up.rR _),(Up.rR _).comp (hO.2.comp u1 b1) (bO.comp b1)⟩
    ·have TL:¬(k=0\/k=1\/k=2):=(by omega);rw[if_neg TL]at hs;simp only[k0,k1,k2,if_false];by_cases k3:k=3
     ·simp only[k3,if_true,Int.reduceEq,if_false]at hs⊢;exact FE (by omega) g3
     ·by_cases k4:k=4
      ·simp only[k4,if_true,Int.reduceEq,if_false]at hs⊢;have hp:=Br.2 (h3 k4);exact E_ (by omega) (h3 k4) g3
      ·have k5:k=5:=(by omega);simp only[k5,if_true,Int.reduceEq,if_false]at hs⊢;have hb:=h5 k5;have hc:0<=(if hi= -1 then lo+1 else hi)/\(if hi= -1 then lo+1 else hi)<=21:=by split<;>omega
       generalize jx:(if hi= -1 then lo+1 else hi)=cc at*
       by_cases z:cc=0
       ·have cS:hi=0/\lo=0:=by split at jx<;>omega
        have e:nA (Go.Proofs.YtpdnofhackjfdaaGreatDoor.mg cP) lo hi lz=fun st nx=>(st,nx):=by
         funext st nx
         unfold nA;rw[cS.1,cS.2];rfl
        have e':(fun st nx=>nA (Go.Proofs.YtpdnofhackjfdaaGreatDoor.mg cP) lo hi lz st nx)=fun st nx=>(st,nx):=by rw[e]
        have e2:(fun nx=>zh x (xC x cP) lo hi lz nx)=fun nx=>nx:=by
         funext nx
         unfold zh;rw[cS.1,cS.2];rfl
        rw[e',e2];exact⟨eL.id x,Up.id⟩
       ·have hm:cc*(CT.cG cP+1)<=1000:=by omega
        have gO:CT.cG cP+1<=cc*(CT.cG cP+1):=by
         have:=D7 (show 1<=cc by omega) (show 0<=CT.cG cP+1 by omega);rw[Int.one_mul]at this;exact this
        have hO:=sL (by omega) (h2 (Or.inr k5)) g3;have bO:=mg (by omega) (h2 (Or.inr k5));exact⟨eL.wh hO.1 bO aky hO.2 lo hi lz,Up.wh hO.1 bO hO.2 lo hi lz⟩
theorem afU(x:TX)(G:Int):∀cs:List CT,CT.ey cs->CT.cG cs<=1000->cs.length=1->CT.fu G cs->eL x (mg cs) (xC x cs)/\Up (mg cs)
 | [],_,_,hl,_=>by simp at hl
 | [c],h,hs,_,hg=>by
   unfold CT.ey at h;unfold CT.fu at hg;simp only[CT.cG,Int.add_zero]at hs;unfold mg xC;exact Lg x G c h.1 hs hg.1
 |c::d::cs,h,hs,hl,_=>by simp at hl
theorem ZT(x:TX)(G:Int):∀cs:List CT,CT.ey cs->CT.cG cs<=1000->CT.fu G cs->eL x (jv cs) (qT x cs)/\Up (jv cs)
 | [],_,_,_=>by unfold jv qT;exact⟨eL.id x,Up.id⟩
 |c::cs,h,hs,hg=>by
  unfold CT.ey at h;unfold CT.fu at hg;have h1:=CT.ze c h.1;have h2:=CT.wg cs h.2;unfold CT.cG at hs;unfold jv qT;have a:=Lg x G c h.1 (by omega) hg.1;have b:=ZT x G cs h.2 (by omega) hg.2;have ba:=od c h.1 (by omega);have bb:=Tr cs h.2 (by omega);exact⟨a.1.comp b.1 ba bb a.2,a.2.comp b.2 bb⟩
theorem ZO(x:TX)(G:Int):∀cs:List CT,CT.ey cs->CT.cG cs<=1000->cs≠ []->CT.fu G cs->eL x (iO cs) (vY x cs)/\Up (iO cs)
 | [],_,_,hl,_=>absurd rfl hl
 | [c],h,hs,_,hg=>by
   unfold CT.ey at h;unfold CT.fu at hg;simp only[CT.cG,Int.add_zero]at hs;unfold iO vY;exact Lg x G c h.1 hs hg.1
 |c::d::cs,h,hs,hl,hg=>by
  have hc:CT.ok c/\CT.ey (d::cs):=by unfold CT.ey at h;exact h
  have nL:CT.gN G c/\CT.fu G (d::cs):=by unfold CT.fu at hg;exact hg
  have h1:=CT.ze c hc.1;have h2:=CT.wg (d::cs) hc.2;have qG:CT.sz c+CT.cG (d::cs)<=1000:=by unfold CT.cG at hs;exact hs
  have a:=Lg x G c hc.1 (by omega) nL.1;have b:=ZO x G (d::cs) hc.2 (by omega) (by simp) nL.2;have ba:=od c hc.1 (by omega);have bb:=Tq (d::cs) hc.2 (by omega) (by simp);unfold iO vY;exact⟨a.1.aE b.1 ba bb,a.2.aE bb⟩
end
structure VS where
 num:List Int
 aL:List Nat
 bD:List Nat
def VS.put(V:VS)(s:Nat):VS:=⟨V.num.set s V.aL.length,V.aL++[s],V.bD⟩
def VS.iq(V:VS)(t:Nat):VS:=⟨V.num,V.aL,V.bD++[t]⟩
inductive lk(M:List MS):VS->Int->VS->Prop where
 |aJ (V:VS) (s:Nat) (v:Int) (h:V.num[s]? =some v) (hv:v≠ -1):lk M V s V
 |stop (V:VS) (s:Nat) (m:MS) (hn:V.num[s]? =some (-1)) (h:M[s]? =some m) (hk:m.kind≠1/\m.kind≠2/\m.kind≠3/\m.kind≠4):lk M V s (V.put s)
 |take (V:VS) (s:Nat) (m:MS) (hn:V.num[s]? =some (-1)) (h:M[s]? =some m) (hk:m.kind=1):lk M V s ((V.iq m.next.toNat).put s)
 |one (V V':VS) (s:Nat) (m:MS) (hn:V.num[s]? =some (-1)) (h:M[s]? =some m) (hk:m.kind=2\/m.kind=3) (hv:lk M V m.next V'):lk M V s (V'.put s)
 |cA (V V' V2:VS) (s:Nat) (m:MS) (hn:V.num[s]? =some (-1)) (h:M[s]? =some m) (hk:m.kind=4) (hv:lk M V m.next V') (hw:lk M V' m.a_ V2):lk M V s (V2.put s)
def tL(M:List MS)(s t:Int):Prop:=∃(j:Nat) (m:MS),s=j/\M[j]? =some m/\(((m.kind=2\/m.kind=3\/m.kind=4)/\t=m.next)\/(m.kind=4/\t=m.a_))
inductive Reach(M:List MS):Int->Int->Prop where
 |refl (s:Int):Reach M s s
 |step (s t u:Int) (h:tL M s t) (hr:Reach M t u):Reach M s u
theorem Reach.trans{c:Int}(h:Reach M a b)(h':Reach M b c):Reach M a c:=by
 induction h with
 |refl s=>exact h'
 |step s t u hs hr ih=>exact Reach.step s t c hs (ih h')
theorem eO.ac1(h:eO M s):∀c,tL M s c->¬Reach M c s:=by
 have key:∀{s c:Int},tL M s c->(∀d,tL M c d->¬Reach M d c)->¬Reach M c s:=by
  intro s c hs ih hr
  cases hr with
  |refl=>exact ih _ hs (Reach.refl _)
  |step _ d _ hd hr=>exact ih d hd (hr.trans (Reach.step _ _ _ hs (Reach.refl _)))
 induction h with
 |stop s m hm hk=>
  rintro c ⟨j,m',hj,h1,h2⟩;have:j=s:=by omega
  subst this;rw[hm]at h1
  cases h1;omega
 |one s m hm hk hn ih=>
  intro c hc;refine key hc ?_;obtain⟨j,m',hj,h1,h2⟩:=hc;have:j=s:=by omega
  subst this;rw[hm]at h1
  cases h1;rcases h2 with h2|h2
  ·rw[h2.2];exact ih
  ·omega
 |cA s m hm hk hn ho ih uj=>
  intro c hc;refine key hc ?_;obtain⟨j,m',hj,h1,h2⟩:=hc;have:j=s:=by omega
  subst this;rw[hm]at h1
  cases h1;rcases h2 with h2|h2
  ·rw[h2.2];exact ih
  ·rw[h2.2];exact uj
structure jE(M:List MS)(R:Nat->Prop)(V:VS):Prop where
 len:V.num.length=M.length
 u_:V.aL.length=V.num.countP (fun v=>v != -1)
 has:∀(s:Nat) (v:Int),V.num[s]? =some v->v≠ -1->∃k:Nat,v=k/\V.aL[k]? =some s
 at_:∀(k s:Nat),V.aL[k]? =some s->V.num[s]? =some (k:Int)
 QK:∀s∈V.aL,R s
 bD:∀t∈V.bD,R t
 next:∀(k s:Nat) (m:MS),V.aL[k]? =some s->M[s]? =some m->(m.kind=1->m.next.toNat∈V.bD)/\(∀t,tL M s t->∃k':Nat,k'<k/\V.num[t.toNat]? =some (k':Int))
structure mO(M:List MS)(s:Int)(V V':VS):Prop where
 aL:∃l,V'.aL=V.aL++l/\∀t∈l,Reach M s (t:Int)
 bD:∃l,V'.bD=V.bD++l
theorem mO.refl(M:List MS)(s:Int)(V:VS):mO M s V V:=⟨⟨[],by simp,fun t h=>by simp at h⟩,⟨[],by simp⟩⟩
theorem mO.trans{t u:Int}{V V' V2:VS}(h:mO M s V V')(h':mO M t V' V2)(hs:Reach M u s)(ht:Reach M u t):mO M u V V2:=by
 obtain⟨⟨l,h1,h2⟩,⟨l',h3⟩⟩:=h;obtain⟨⟨k,k1,k2⟩,⟨k',k3⟩⟩:=h';refine⟨⟨l++k,by rw[k1,h1,Bd],fun x hx=>?_⟩,⟨l'++k',by rw[k3,h3,Bd]⟩⟩;rcases Al.1 hx with hx|hx
 ·exact hs.trans (h2 x hx)
 ·exact ht.trans (k2 x hx)
theorem jE.ac6{V V':VS}(h:jE M R V)(h':jE M R V')(e:mO M s V V'){v:Int}(ht:V.num[t]? =some v)(hv:v≠ -1):V'.num[t]? =some v:=by
 obtain⟨k,rfl,hk⟩:=h.has t v ht hv;obtain⟨⟨l,h1,_⟩,_⟩:=e;refine h'.at_ k t ?_;rw[h1,A9 (Ag.1 hk).1];exact hk
theorem jE.Xu{V V':VS}(h:jE M R V)(h':jE M R V')(e:mO M s V V')(ht:V.num[t]? =some (-1))(hr:¬Reach M s t):V'.num[t]? =some (-1):=by
 have aw:t<V'.num.length:=by rw[h'.len,<-h.len];exact(Ag.1 ht).1
 have hv:V'.num[t]? =some V'.num[t]:=Ae aw;by_cases hn:V'.num[t]= -1
 ·rw[hv,hn]
 ·exfalso
  obtain⟨k,e1,hk⟩:=h'.has t _ hv hn;obtain⟨⟨l,h1,h2⟩,_⟩:=e;rw[h1]at hk;by_cases iX:k<V.aL.length
  ·rw[A9 iX]at hk;have:=h.at_ k t hk;rw[ht]at this
   cases this
  ·rw[Cl (by omega)]at hk;exact hr (h2 t (Ca hk))
theorem jE.put{V:VS}(h:jE M R V){s:Nat}(hn:V.num[s]? =some (-1))(hR:R s)
 (hs:∀m,M[s]? =some m->(m.kind=1->m.next.toNat∈V.bD)/\(∀t,tL M s t->∃k':Nat,V.num[t.toNat]? =some (k':Int))):jE M R (V.put s):=by
 have aw:=(Ag.1 hn).1
 have mU:∀t:Nat,(V.put s).num[t]? =if t=s then some (V.aL.length:Int)else V.num[t]? :=by
  intro t;show(V.num.set s (V.aL.length:Int))[t]? =_
  by_cases e:t=s
  ·subst e;rw[Ef aw,if_pos rfl]
  ·rw[Er (fun e'=>e e'.symm),if_neg e]
 have hold:∀(k t:Nat),V.aL[k]? =some t->t≠s:=by
  intro k t hk e;subst e;have:=h.at_ k t hk;rw[hn]at this
  cases this
 refine⟨by show(V.num.set s _).length=_;rw[Bm];exact h.len,?_,fun t v ht hv=>?_,fun k t hk=>?_,fun t ht=>?_,h.bD,fun k t m hk hm=>?_⟩
 ·show(V.aL++[s]).length=(V.num.set s (V.aL.length:Int)).countP _
  have e:V.num[s]= -1:=by
   have:=Ae aw;rw[hn]at this;exact(C6 this).symm
  rw[List.countP_set aw,e,<-h.u_];have:((V.aL.length:Int) != -1)=true:=by simp
  simp[this]
 ·rw[mU]at ht;by_cases e:t=s
  ·rw[if_pos e]at ht
   cases ht;exact⟨V.aL.length,rfl,by show(V.aL++[s])[V.aL.length]? =_;simp[e]⟩
  ·rw[if_neg e]at ht;obtain⟨k,e1,hk⟩:=h.has t v ht hv;exact⟨k,e1,by show(V.aL++[s])[k]? =_;rw[A9 (Ag.1 hk).1];exact hk⟩
 ·rw[mU];have gy:(V.aL++[s])[k]? =some t:=hk;by_cases iX:k<V.aL.length
  ·rw[A9 iX]at gy;rw[if_neg (hold k t gy)];exact h.at_ k t gy
  ·have:k=V.aL.length:=by
    have:=(Ag.1 gy).1;simp at this;omega
   subst this;simp at gy;rw[if_pos gy.symm]
 ·have:t∈V.aL++[s]:=ht;rcases Al.1 this with h1|h1
  ·exact h.QK t h1
  ·simp at h1;subst h1;exact hR
 ·have gy:(V.aL++[s])[k]? =some t:=hk;by_cases iX:k<V.aL.length
  ·rw[A9 iX]at gy;obtain⟨a1,a2⟩:=h.next k t m gy hm
   refine⟨a1,fun u hu=>?_⟩;obtain⟨k',h1,h2⟩:=a2 u hu;refine⟨k',h1,?_⟩;rw[mU];by_cases e:u.toNat=s
   ·rw[e,hn]at h2;cases h2
   ·rw[if_neg e];exact h2
  ·have:k=V.aL.length:=by
    have:=(Ag.1 gy).1;simp at this;omega
   subst this;simp at gy;subst gy;obtain⟨a1,a2⟩:=hs m hm;refine⟨a1,fun u hu=>?_⟩;obtain⟨k',h2⟩:=a2 u hu;have eZ:=h.has u.toNat k' h2 (by omega);obtain⟨k2,e2,h3⟩:=eZ;refine⟨k',by have:=(Ag.1 h3).1;omega,?_⟩;rw[mU];by_cases e:u.toNat=s
   ·rw[e,hn]at h2;cases h2
   ·rw[if_neg e];exact h2
theorem mO.put{V V':VS}(h:mO M s V V')(ht:Reach M s t):mO M s V (V'.put t):=by
 obtain⟨⟨l,h1,h2⟩,⟨l',h3⟩⟩:=h;refine⟨⟨l++[t],by show V'.aL++[t]=_;rw[h1,Bd],fun x hx=>?_⟩,⟨l',h3⟩⟩;rcases Al.1 hx with hx|hx
 ·exact h2 x hx
 ·simp at hx;subst hx;exact ht
theorem VS.Rs{V:VS}{s:Nat}(h:s<V.num.length):(V.put s).num[s]? =some (V.aL.length:Int):=Ef h
structure Shut(M:List MS)(R:Nat->Prop):Prop where
 ve:∀s:Nat,R s->eO M s
 cl:∀s:Nat,R s->∃m,M[s]? =some m/\D_ (fun t=>∃j:Nat,t=j/\R j) m
theorem jE.iq{V:VS}(h:jE M R V)(ht:R t):jE M R (V.iq t):=
 ⟨h.len,h.u_,h.has,h.at_,h.QK,fun x hx=>by
   rcases Al.1 (show x∈V.bD++[t]from hx)with h1|h1
   ·exact h.bD x h1
   ·simp at h1;subst h1;exact ht,fun k s m a b=>⟨fun c=>List.mem_append_left _ ((h.next k s m a b).1 c),(h.next k s m a b).2⟩⟩
theorem tL.kind{s:Nat}{t:Int}{m:MS}(h:tL M s t)(hm:M[s]? =some m):((m.kind=2\/m.kind=3\/m.kind=4)/\t=m.next)\/(m.kind=4/\t=m.a_):=by
 obtain⟨j,m',hj,h1,h2⟩:=h;have:j=s:=by omega
 subst this;rw[hm]at h1
 cases h1;exact h2
theorem Shut.Wx(hS:Shut M R){V:VS}{s:Nat}(hV:jE M R V)(hR:R s):(∃k:Nat,V.num[s]? =some (k:Int))\/V.num[s]? =some (-1):=by
 obtain⟨m,hm,_⟩:=hS.cl s hR;have aw:s<V.num.length:=by rw[hV.len];exact(Ag.1 hm).1
 have hv:V.num[s]? =some V.num[s]:=Ae aw;by_cases e:V.num[s]= -1
 ·right;rw[hv,e]
 ·left
  obtain⟨k,e1,_⟩:=hV.has s _ hv e;exact⟨k,by rw[hv,e1]⟩
theorem apf(hS:Shut M R)(hE:eO M s):∀V,jE M R V->(∃j:Nat,s=j/\R j)->
 ∃V',lk M V s V'/\jE M R V'/\mO M s V V'/\(∃k:Nat,V'.num[s.toNat]? =some (k:Int))/\V'.bD.length+V.aL.length<=V.bD.length+V'.aL.length:=by
 induction hE with
 |stop s m hm hk=>
  rintro V hV ⟨j,hj,hR⟩;have:j=s:=by omega
  subst this;rcases hS.Wx hV hR with⟨k,h1⟩|hn
  ·exact⟨V,lk.aJ V j k h1 (by omega),hV,mO.refl M _ V,⟨k,by simpa using h1⟩,Ab _⟩
  ·have aw:=(Ag.1 hn).1;by_cases k1:m.kind=1
   ·obtain⟨m',fS,hc⟩:=hS.cl j hR;rw[hm]at fS;cases fS;obtain⟨t,ht,hRt⟩:=hc.1 (Or.inl k1);have hV':jE M R (V.iq m.next.toNat):=hV.iq (by rw[ht];simpa using hRt);have e1:mO M (j:Int) V (V.iq m.next.toNat):=⟨⟨[],by simp[VS.iq],fun t h=>by simp at h⟩,⟨[m.next.toNat],rfl⟩⟩;refine⟨(V.iq m.next.toNat).put j,lk.take V j m hn hm k1,hV'.put hn hR (fun m' fS=>?_),e1.put (Reach.refl _),⟨V.aL.length,by simpa using(show((V.iq m.next.toNat).put j).num[j]? =some (V.aL.length:Int)from VS.Rs (V:=V.iq m.next.toNat) aw)⟩,?_⟩
    ·rw[hm]at fS;cases fS;exact⟨fun _=>by show m.next.toNat∈V.bD++[m.next.toNat];simp,fun t ht=>by have:=ht.kind hm;omega⟩
    ·show(V.bD++[m.next.toNat]).length+V.aL.length<=V.bD.length+(V.aL++[j]).length
     simp only[Aj,Av,A8];omega
   ·refine⟨V.put j,lk.stop V j m hn hm ⟨k1,hk⟩,hV.put hn hR (fun m' fS=>?_),(mO.refl M _ V).put (Reach.refl _),⟨V.aL.length,by simpa using VS.Rs aw⟩,?_⟩
    ·rw[hm]at fS;cases fS;exact⟨fun e=>absurd e k1,fun t ht=>by have:=ht.kind hm;omega⟩
    ·show V.bD.length+V.aL.length<=V.bD.length+(V.aL++[j]).length
     simp only[Aj,Av,A8];omega
 |one s m hm hk hn ih=>
  rintro V hV ⟨j,hj,hR⟩;have:j=s:=by omega
  subst this;have I0:=(eO.one j m hm hk hn).ac1;have bC:tL M j m.next:=⟨j,m,rfl,hm,Or.inl ⟨by omega,rfl⟩⟩
  rcases hS.Wx hV hR with⟨k,h1⟩|hnu
  ·exact⟨V,lk.aJ V j k h1 (by omega),hV,mO.refl M _ V,⟨k,by simpa using h1⟩,Ab _⟩
  ·have aw:=(Ag.1 hnu).1;obtain⟨m',fS,hc⟩:=hS.cl j hR;rw[hm]at fS;cases fS;obtain⟨V',v1,v2,v3,⟨k,v4⟩,v5⟩:=ih V hV (hc.1 (by omega));have lR:=hV.Xu v2 v3 hnu (I0 _ bC);have e3:mO M (j:Int) V V':=(mO.refl M (j:Int) V).trans v3 (Reach.refl _) (Reach.step _ _ _ bC (Reach.refl _));refine⟨V'.put j,lk.one V V' j m hnu hm hk v1,v2.put lR hR (fun m' fS=>?_),e3.put (Reach.refl _),⟨V'.aL.length,by simpa using VS.Rs (V:=V') (by rw[v2.len,<-hV.len];exact aw)⟩,?_⟩
   ·rw[hm]at fS;cases fS;refine⟨fun e=>by omega,fun t ht=>?_⟩;have:=ht.kind hm;have e:t=m.next:=(by omega);rw[e]
    exact⟨k,v4⟩
   ·show V'.bD.length+V.aL.length<=V.bD.length+(V'.aL++[j]).length
    simp only[Aj,Av,A8];omega
 |cA s m hm hk hn ho ih uj=>
  rintro V hV ⟨j,hj,hR⟩;have:j=s:=by omega
  subst this;have I0:=(eO.cA j m hm hk hn ho).ac1;have bC:tL M j m.next:=⟨j,m,rfl,hm,Or.inl ⟨by omega,rfl⟩⟩
  have MG:tL M j m.a_:=⟨j,m,rfl,hm,Or.inr ⟨by omega,rfl⟩⟩;rcases hS.Wx hV hR with⟨k,h1⟩|hnu
  ·exact⟨V,lk.aJ V j k h1 (by omega),hV,mO.refl M _ V,⟨k,by simpa using h1⟩,Ab _⟩
  ·have aw:=(Ag.1 hnu).1;obtain⟨m',fS,hc⟩:=hS.cl j hR;rw[hm]at fS;cases fS;obtain⟨V',v1,v2,v3,⟨k,v4⟩,v5⟩:=ih V hV (hc.1 (by omega));obtain⟨V2,w1,w2,w3,⟨k',w4⟩,w5⟩:=uj V' v2 (hc.2 hk);have lR:=v2.Xu w2 w3 (hV.Xu v2 v3 hnu (I0 _ bC)) (I0 _ MG);have e3:mO M (j:Int) V V2:=v3.trans w3 (Reach.step _ _ _ bC (Reach.refl _)) (Reach.step _ _ _ MG (Reach.refl _));refine⟨V2.put j,lk.cA V V' V2 j m hnu hm hk v1 w1,w2.put lR hR (fun m' fS=>?_),e3.put (Reach.refl _),⟨V2.aL.length,by simpa using VS.Rs (V:=V2) (by rw[w2.len,<-hV.len];exact aw)⟩,?_⟩
   ·rw[hm]at fS;cases fS;refine⟨fun e=>by omega,fun t ht=>?_⟩;have:=ht.kind hm;by_cases e:t=m.next
    ·rw[e];exact⟨k,v2.ac6 w2 w3 v4 (by omega)⟩
    ·have e:t=m.a_:=(by omega);rw[e];exact⟨k',w4⟩
   ·show V2.bD.length+V.aL.length<=V.bD.length+(V2.aL++[j]).length
    simp only[Aj,Av,A8];omega
inductive qi(M:List MS):Nat->VS->VS->Prop where
 |done (at_:Nat) (V:VS) (h:V.bD.length<=at_):qi M at_ V V
 |step (at_:Nat) (V V' V2:VS) (t:Nat) (h:V.bD[at_]? =some t) (hv:lk M V t V') (hl:qi M (at_+1) V' V2):qi M at_ V V2
theorem jE.adi{V:VS}(h:jE M R V):V.aL.length<=M.length:=by
 rw[h.u_,<-h.len];exact Fj
theorem acx(hS:Shut M R):∀(n at_:Nat) (V:VS),M.length+2-at_<=n->jE M R V->at_<=V.bD.length->V.bD.length<=1+V.aL.length->(∀k t:Nat,k<at_->V.bD[k]? =some t->∃u:Nat,V.num[t]? =some (u:Int))->
 ∃V',qi M at_ V V'/\jE M R V'/\(∃l,V'.bD=V.bD++l)/\∀t∈V'.bD,∃u:Nat,V'.num[t]? =some (u:Int)
 |0,at_,V,hn,hV,hle,dw,UX=>by
  have:=hV.adi;omega
 |n+1,at_,V,hn,hV,hle,dw,UX=>by
  by_cases aw:at_<V.bD.length
  ·have ht:V.bD[at_]? =some V.bD[at_]:=Ae aw;have hR:=hV.bD _ (A5 aw);obtain⟨V',v1,v2,v3,⟨k,v4⟩,v5⟩:=apf hS (hS.ve _ hR) V hV ⟨_,rfl,hR⟩;obtain⟨l,hl⟩:=v3.bD;have cT:V'.bD.length=V.bD.length+l.length:=by rw[hl,Aj]
   obtain⟨V2,w1,w2,⟨l',w3⟩,w4⟩:=acx hS n (at_+1) V' (by omega) v2 (by omega) (by omega) (fun i t hi hit=>by
    have lu:i<V.bD.length:=(by omega);rw[hl,A9 lu]at hit;by_cases e:i=at_
    ·subst e;rw[ht]at hit
     cases hit;exact⟨k,by simpa using v4⟩
    ·obtain⟨u,hu⟩:=UX i t (by omega) hit;exact⟨u,hV.ac6 v2 v3 hu (by omega)⟩)
   exact⟨V2,qi.step at_ V V' V2 _ ht v1 w1,w2,⟨l++l',by rw[w3,hl,Bd]⟩,w4⟩
  ·refine⟨V,qi.done at_ V (by omega),hV,⟨[],by simp⟩,fun t ht=>?_⟩;obtain⟨i,hi,rfl⟩:=C3 ht;exact UX i _ (by omega) (Ae hi)
def VS.first(n start:Nat):VS:=⟨List.replicate n (-1),[],[start]⟩
theorem jE.first(h:R start):jE M R (VS.first M.length start) where
 len:=by simp[VS.first]
 u_:=by simp[VS.first,List.countP_replicate]
 has s v h1 h2:=by
  have:v= -1:=by
   have:=Ca h1;simp[VS.first]at this;exact this.2
  exact absurd this h2
 at_ k s h1:=by simp[VS.first]at h1
 QK s h1:=by simp[VS.first]at h1
 bD t h1:=by simp[VS.first]at h1;subst h1;exact h
 next k s m h1:=by simp[VS.first]at h1
def sorted(M:List MS)(V:VS):List MS:=V.aL.map fun s=>{M.getD s bN with next:=V.num.getD (M.getD s bN).next.toNat 0,a_:=V.num.getD (M.getD s bN).a_.toNat 0}
theorem al1(hS:Shut M R)(h:R start):∃V,qi M 0 (VS.first M.length start) V/\jE M R V/\∀t,(t=start\/∃(s:Nat) (m:MS),s∈V.aL/\M[s]? =some m/\m.kind=1/\t=m.next.toNat)->∃u:Nat,V.num[t]? =some (u:Int):=by
 obtain⟨V,h1,h2,⟨l,h3⟩,h4⟩:=acx hS (M.length+2) 0 (VS.first M.length start) (by omega) (jE.first h) (Ao _) (by simp[VS.first]) (fun k t hk=>by omega);refine⟨V,h1,h2,fun t ht=>h4 t ?_⟩;rcases ht with rfl|⟨s,m,hs,hm,hk,rfl⟩
 ·rw[h3];simp[VS.first]
 ·obtain⟨k,gy,qG⟩:=C3 hs;exact(h2.next k s m (by rw[Ae gy,qG]) hm).1 hk
def eY(C:CT):List MS×Ex:=bu C [⟨0,[],false,false,0,0,0,0⟩] (0,0)
theorem ago{C:CT}(h:C.ok)(hs:C.sz<=1000):∃R,Shut (eY C).1 R/\(∃j:Nat,(eY C).2.2=j/\R j)/\oO (eY C).1/\1<=(eY C).1.length/\(eY C).1.length<=4001:=by
 have hb:=od C h hs;have hx:da [bN].length (0,0):=by unfold da;simp
 have g:=hb.grow [bN] (0,0);have f:=hb.bJ [bN] (0,0);have hn:=CT.ze C h;have ha:=hb.oc [bN] (0,0) hx (by intro m hm;simp at hm;subst hm;unfold ss bN;simp);obtain⟨N,hN⟩:=hb.sub [bN] (0,0) hx (eY C).1 (fun j _ _=>rfl)
 have h0:(eY C).1[0]? =some bN:=by
  have:=LM g.2 (j:=0) (by simp);exact this
 have e0:eO (eY C).1 ((0:Nat):Int):=eO.stop 0 bN h0 (by simp[bN])
 have yJ:∀{t:Int},jQ N (0,0) t->∃j:Nat,t=j/\(N j\/j=0):=by
  intro t ht;rcases ht with⟨j,h1,h2⟩|h1|⟨h1,_⟩
  ·exact⟨j,h1,Or.inl h2⟩
  ·exact⟨0,h1,Or.inr rfl⟩
  ·exact⟨0,h1,Or.inr rfl⟩
 refine⟨fun j=>N j\/j=0,⟨fun s hs=>?_,fun s hs=>?_⟩,yJ hN.rO,ha,g.1,?_⟩
 ·rcases hs with hs|rfl
  ·exact hN.es e0 (Or.inr e0) s hs
  ·exact e0
 ·rcases hs with hs|rfl
  ·obtain⟨m,h1,h2⟩:=hN.cl s hs;exact⟨m,h1,h2.mono (fun t ht=>yJ ht)⟩
  ·exact⟨bN,h0,fun h=>by simp[bN]at h,fun h=>by simp[bN]at h⟩
 ·show(bu C [bN] (0,0)).1.length<=4001
  simp only[Av,A8]at f;omega
