/- What the states that the builder makes match -/
import Derived.Test.YtpdnofhackjfdaaGreatDoorP10
import Derived.Test.YtpdnofhackjfdaaGreatDoorP11
set_option linter.all false
set_option maxRecDepth 100000
namespace Go.Proofs.YtpdnofhackjfdaaGreatDoor
open Go.Proofs.Tryz
variable {f g:Bl} {A B:aH×aH} {sf sg:aH×aH->aH×aH} {a b s:Int} {gs:List Int} {M st:List MS} {c d i start t:Nat} {R:Nat->Prop} {x:TX}
abbrev iH:=Option (Nat×List Int)
inductive cM(M:List MS)(x:TX):Int->Nat->List Int->iH->Prop where
 |done (s:Nat) (m:MS) (i:Nat) (gs:List Int) (h:M[s]? =some m) (hk:m.kind=0):cM M x s i gs (some (i,gs))
 |jr (s:Nat) (m:MS) (i:Nat) (gs:List Int) (r:iH) (h:M[s]? =some m) (hk:m.kind=1) (ht:(decide (i<x.l.length)&&fP m.sp m.fo m.nt (x.bu i))=true) (hn:cM M x m.next (i+1) gs r):cM M x s i gs r
 |iX (s:Nat) (m:MS) (i:Nat) (gs:List Int) (h:M[s]? =some m) (hk:m.kind=1) (ht:(decide (i<x.l.length)&&fP m.sp m.fo m.nt (x.bu i))=false):cM M x s i gs none
 |Rv (s:Nat) (m:MS) (i:Nat) (gs:List Int) (r:iH) (h:M[s]? =some m) (hk:m.kind=2) (he:DU x m.eo i=true) (hn:cM M x m.next i gs r):cM M x s i gs r
 |Ru (s:Nat) (m:MS) (i:Nat) (gs:List Int) (h:M[s]? =some m) (hk:m.kind=2) (he:DU x m.eo i=false):cM M x s i gs none
 |mark (s:Nat) (m:MS) (i:Nat) (gs:List Int) (r:iH) (h:M[s]? =some m) (hk:m.kind=3) (hn:cM M x m.next i (gs.set m.slot.toNat (x.aW i)) r):cM M x s i gs r
 |zT (s:Nat) (m:MS) (i:Nat) (gs:List Int) (v:Nat×List Int) (h:M[s]? =some m) (hk:m.kind=4) (hn:cM M x m.next i gs (some v)):cM M x s i gs (some v)
 |zS (s:Nat) (m:MS) (i:Nat) (gs:List Int) (r:iH) (h:M[s]? =some m) (hk:m.kind=4) (hn:cM M x m.next i gs none) (ho:cM M x m.a_ i gs r):cM M x s i gs r
theorem cM.Js{r:iH}(h:cM M x s i gs r):0<=s:=by
 cases h<;>omega
def kH(M:List MS)(x:TX)(s:Int)(i:Nat)(gs:List Int)(r:iH):Prop:=(s= -1/\r=none)\/cM M x s i gs r
theorem kH.iy{r:iH}(h:kH M x s i gs r)(hs:s≠ -1):cM M x s i gs r:=h.resolve_left fun e=>hs e.1
theorem kH.none{r:iH}(h:kH M x s i gs r)(hs:s= -1):r=Option.none:=by
 rcases h with h|h
 ·exact h.2
 ·have:=h.Js;omega
structure eH(x:TX)(f:Bl)(W_:aH×aH->aH×aH):Prop where
 rU:∀st nx,cZ st.length nx->nx.1= -1->(f st nx).2.1= -1->∀(K:aH×aH),(∀i gs,K.1 i gs=none)->∀i gs,(W_ K).1 i gs=none
 iy:∀st nx,cZ st.length nx->∀M,gL M st.length (f st nx).1.length (f st nx).1->∀(K:aH×aH) (i:Nat),i<=x.l.length->
  ((∀gs,kH M x nx.1 i gs (K.1 i gs))->(∀j,i<j->j<=x.l.length->∀gs,cM M x nx.2 j gs (K.2 j gs))->∀gs,kH M x (f st nx).2.1 i gs ((W_ K).1 i gs))/\
  ((∀j,i<=j->j<=x.l.length->∀gs,cM M x nx.2 j gs (K.2 j gs))->∀gs,cM M x (f st nx).2.2 i gs ((W_ K).2 i gs))
theorem eH.id(x:TX):eH x (fun st nx=>(st,nx)) (fun p=>p) where
 rU st nx h h1 h2 K hK:=hK
 iy st nx h M hM K i hi:=⟨fun a _=>a,fun a gs=>a i (Ab _) hi gs⟩
theorem eH.comp(hf:eH x f sf)(hg:eH x g sg)(bf:BS f c)(bg:BS g d)
 (up:∀st nx,cZ st.length nx->nx.1≠ -1->(f st nx).2.1≠ -1):eH x (fun st nx=>f (g st nx).1 (g st nx).2) (fun p=>sf (sg p)) where
 rU st nx h h1 h2 K hK:=by
  have hx:=bg.fG st nx h;by_cases e:(g st nx).2.1= -1
  ·exact hf.rU _ _ hx e h2 (sg K) (hg.rU st nx h h1 e K hK)
  ·exact absurd h2 (up _ _ hx e)
 iy st nx h M hM K i hi:=by
  have a:=bg.grow st nx;have b:=bf.grow (g st nx).1 (g st nx).2;have hMg:gL M st.length (g st nx).1.length (g st nx).1:=hM.left b.2 b.1;have hMf:gL M (g st nx).1.length (f (g st nx).1 (g st nx).2).1.length (f (g st nx).1 (g st nx).2).1:=hM.right a.1;have rg:=fun j hj=>hg.iy st nx h M hMg K j hj
  have rf:=hf.iy (g st nx).1 (g st nx).2 (bg.fG _ _ h) M hMf (sg K) i hi;refine⟨fun h3 h4=>?_,fun h3=>?_⟩
  ·exact rf.1 ((rg i hi).1 h3 h4) (fun j j1 j2=>(rg j j2).2 (fun k k1 k2=>h4 k (by omega) k2))
  ·exact rf.2 (fun j j1 j2=>(rg j j2).2 (fun k k1 k2=>h3 k (by omega) k2))
def Up(f:Bl):Prop:=∀st nx,cZ st.length nx->nx.1≠ -1->(f st nx).2.1≠ -1
theorem eH.take(x:TX)(sp:bD)(fo nt:Bool):eH x (fun st nx=>(st++[pk sp fo nt nx.2],((st.length:Int),(st.length:Int)))) (fun p=>(uD x sp fo nt p.2,uD x sp fo nt p.2)) where
 rU st nx h h1 h2:=by simp only at h2;omega
 iy st nx h M hM K i hi:=by
  have hm:M[st.length]? =some (pk sp fo nt nx.2):=hM.at (Ab _) (by simp) (ym _ _)
  have key:(∀j,i<j->j<=x.l.length->∀gs,cM M x nx.2 j gs (K.2 j gs))->∀gs,cM M x (st.length:Int) i gs (uD x sp fo nt K.2 i gs):=by
   intro h4 gs;unfold uD;by_cases c:(decide (i<x.l.length)&&fP sp fo nt (x.bu i))=true
   ·rw[if_pos c];have aw:i<x.l.length:=by simp at c;exact c.1
    exact cM.jr _ _ _ _ _ hm rfl c (h4 (i+1) (by omega) aw gs)
   ·rw[if_neg c];exact cM.iX _ _ _ _ hm rfl (Ej.2 c)
  exact⟨fun _ h4 gs=>Or.inr (key h4 gs),fun h4 gs=>key (fun j j1 j2=>h4 j (by omega) j2) gs⟩
theorem eH.rS{s:Int->MS}{L:aH->aH}(hz:∀k i,(∀gs,k i gs=none)->∀gs,L k i gs=none)
 (hl:∀(M:List MS) (a:Nat) (n:Int) (k:aH) (i:Nat),i<=x.l.length->M[a]? =some (s n)->(∀gs,cM M x n i gs (k i gs))->∀gs,cM M x a i gs (L k i gs)):eH x (eZ s) (fun p=>(L p.1,L p.2)) where
 rU st nx h h1 h2 K hK i gs:=hz _ i (hK i) gs
 iy st nx h M hM K i hi:=by
  have h0:=h;unfold cZ at h0;unfold eZ at hM⊢;by_cases c1:nx.1=nx.2
  ·rw[if_pos c1]at hM⊢;have hm:M[st.length]? =some (s nx.2):=hM.at (Ab _) (by simp) (ym _ _);exact⟨fun h3 _ gs=>Or.inr (hl M _ _ K.1 i hi hm (fun gs=>by have:=(h3 gs).iy (by omega);rw[c1]at this;exact this) gs),fun h3 gs=>hl M _ _ K.2 i hi hm (h3 i (Ab _) hi) gs⟩
  ·rw[if_neg c1]at hM⊢;by_cases c2:nx.1= -1
   ·rw[if_pos c2]at hM⊢;have hm:M[st.length]? =some (s nx.2):=hM.at (Ab _) (by simp) (ym _ _);exact⟨fun h3 _ gs=>Or.inl ⟨rfl,hz _ i (fun gs=>(h3 gs).none c2) gs⟩,fun h3 gs=>hl M _ _ K.2 i hi hm (h3 i (Ab _) hi) gs⟩
   ·rw[if_neg c2]at hM⊢;have hm:M[st.length]? =some (s nx.2):=hM.at (Ab _) (by simp) (by simp);have U8:M[st.length+1]? =some (s nx.1):=hM.at (by omega) (by simp) (by simp);exact⟨fun h3 _ gs=>Or.inr (hl M (st.length+1) _ K.1 i hi U8 (fun gs=>(h3 gs).iy c2) gs),fun h3 gs=>hl M _ _ K.2 i hi hm (h3 i (Ab _) hi) gs⟩
theorem eH.qT(x:TX)(e:Int):eH x (eZ (si e)) (Nw x e):=
 eH.rS (L:=za x e) (fun k i h gs=>by unfold za;split<;>simp[h]) (fun M a n k i hi hm h gs=>by
  unfold za;by_cases c:DU x e i=true
  ·rw[if_pos c];exact cM.Rv _ _ _ _ _ hm rfl c (h gs)
  ·rw[if_neg c];exact cM.Ru _ _ _ _ hm rfl (Ej.2 c))
theorem eH.mark(x:TX)(n:Int)(k:Nat)(hk:n.toNat=k):eH x (eZ (iG n)) (GJ x k):=
 eH.rS (L:=yM x k) (fun c i h gs=>h _) (fun M a m c i hi hm h gs=>by
  refine cM.mark _ _ _ _ _ hm rfl ?_;show cM M x m i (gs.set n.toNat (x.aW i)) _
  rw[hk];exact h _)
theorem Pb{A B:aH}(hM:gL M st.length (dH st a b).1.length (dH st a b).1)(ha:kH M x a i gs (A i gs))(hb:kH M x b i gs (B i gs)):
 kH M x (dH st a b).2 i gs (g_ A B i gs):=by
 unfold dH at hM⊢;unfold g_;by_cases c1:a= -1
 ·rw[if_pos c1,ha.none c1];exact hb
 ·rw[if_neg c1]at hM⊢;by_cases c2:b= -1
  ·rw[if_pos c2,hb.none c2]
   cases e:A i gs with
   |none=>simp only;rw[e]at ha;exact ha
   |some v=>simp only;rw[e]at ha;exact ha
  ·rw[if_neg c2]at hM⊢;have hm:M[st.length]? =some (j_ a b):=hM.at (Ab _) (by simp) (ym _ _);have ra:=ha.iy c1;have rb:=hb.iy c2
   cases e:A i gs with
   |none=>simp only;rw[e]at ra;exact Or.inr (cM.zS _ _ _ _ _ hm rfl ra rb)
   |some v=>simp only;rw[e]at ra;exact Or.inr (cM.zT _ _ _ _ _ hm rfl ra)
theorem Pd{f s:Ex}(hM:gL M st.length (gE st f s).1.length (gE st f s).1):
 (kH M x f.1 i gs (A.1 i gs)->kH M x s.1 i gs (B.1 i gs)->kH M x (gE st f s).2.1 i gs ((n_ A B).1 i gs))/\
 (kH M x f.2 i gs (A.2 i gs)->kH M x s.2 i gs (B.2 i gs)->kH M x (gE st f s).2.2 i gs ((n_ A B).2 i gs)):=by
 unfold gE at hM⊢;by_cases c:f.1=f.2/\s.1=s.2
 ·rw[if_pos c]at hM⊢;refine⟨fun a b=>?_,fun a b=>Pb hM a b⟩;rw[c.1]at a;rw[c.2]at b;exact Pb hM a b
 ·rw[if_neg c]at hM⊢;have g1:=tN st f.2 s.2;have g2:=tN (dH st f.2 s.2).1 f.1 s.1;refine⟨fun a b=>Pb (hM.right g1.1) a b,fun a b=>Pb (hM.left g2.2.1 g2.1) a b⟩
theorem aaH{f s:Ex}(lz:Bool)(hM:gL M st.length (dg lz st f s).1.length (dg lz st f s).1):
 (kH M x f.1 i gs (A.1 i gs)->kH M x s.1 i gs (B.1 i gs)->kH M x (dg lz st f s).2.1 i gs ((qn lz A B).1 i gs))/\
 (kH M x f.2 i gs (A.2 i gs)->kH M x s.2 i gs (B.2 i gs)->kH M x (dg lz st f s).2.2 i gs ((qn lz A B).2 i gs)):=by
 unfold dg qn at*
 cases lz
 ·simp only[Aq,if_false]at*;exact Pd hM
 ·simp only[if_true]at*;exact⟨fun a b=>(Pd hM).1 b a,fun a b=>(Pd hM).2 b a⟩
theorem TO{A B:aH}(ha:A i gs=none)(hb:B i gs=none):g_ A B i gs=none:=by unfold g_;rw[ha];exact hb
theorem aaD(lz:Bool)(ha:A.1 i gs=none)(hb:B.1 i gs=none):(qn lz A B).1 i gs=none:=by
 unfold qn;cases lz
 ·exact TO ha hb
 ·exact TO hb ha
theorem aa2(h:(dH st a b).2= -1):a= -1/\b= -1:=by
 unfold dH at h;split at h
 ·exact⟨by assumption,h⟩
 ·split at h
  ·exact⟨h,by assumption⟩
  ·simp only at h;omega
theorem Pc{f s:Ex}(h:(gE st f s).2.1= -1):f.1= -1/\s.1= -1:=by
 unfold gE at h;split at h
 ·next c=>have:=aa2 h;omega
 ·exact aa2 h
theorem OY{f s:Ex}(lz:Bool)(h:(dg lz st f s).2.1= -1):f.1= -1/\s.1= -1:=by
 unfold dg at h;cases lz
 ·exact Pc h
 ·exact(Pc h).symm
theorem eH.aE(hf:eH x f sf)(hg:eH x g sg)(bf:BS f c)(bg:BS g d):
 eH x (fun st nx=>gE (f (g st nx).1 nx).1 (f (g st nx).1 nx).2 (g st nx).2) (fun p=>n_ (sf p) (sg p)) where
 rU st nx h h1 h2 K hK i gs:=by
  have e:=Pc h2;have a:=bg.grow st nx;exact TO (hf.rU _ _ (h.mono a.1) h1 e.1 K hK i gs) (hg.rU _ _ h h1 e.2 K hK i gs)
 iy st nx h M hM K i hi:=by
  have a:=bg.grow st nx;have b:=bf.grow (g st nx).1 nx;have e:=DX (f (g st nx).1 nx).1 (f (g st nx).1 nx).2 (g st nx).2;have abl:gL M st.length (f (g st nx).1 nx).1.length (f (g st nx).1 nx).1:=hM.left e.2.1 e.1;have rg:=hg.iy st nx h M (abl.left b.2 b.1) K i hi;have rf:=hf.iy (g st nx).1 nx (h.mono a.1) M (abl.right a.1) K i hi;have xf:=bf.fG (g st nx).1 nx (h.mono a.1);have xg:=bg.fG st nx h;have r:=fun gs=>Pd (gs:=gs) (i:=i) (x:=x) (A:=sf K) (B:=sg K) (hM.right (a:=(f (g st nx).1 nx).1) (Be a.1 b.1))
  refine⟨fun h3 h4 gs=>(r gs).1 (rf.1 h3 h4 gs) (rg.1 h3 h4 gs),fun h3 gs=>((r gs).2 (Or.inr (rf.2 h3 gs)) (Or.inr (rg.2 h3 gs))).iy ?_⟩;have ok:=Iy (st:=(f (g st nx).1 nx).1) (f:=(f (g st nx).1 nx).2) (s:=(g st nx).2) xf.lR (xg.mono b.1).lR (Or.inl (by have:=xf.1;omega));have:=ok.1.1;omega
theorem Up.comp(hf:Up f)(hg:Up g)(bg:BS g d):Up (fun st nx=>f (g st nx).1 (g st nx).2):=fun st nx h h1=>hf _ _ (bg.fG _ _ h) (hg _ _ h h1)
theorem Up.aE(hf:Up f)(bg:BS g d):Up (fun st nx=>gE (f (g st nx).1 nx).1 (f (g st nx).1 nx).2 (g st nx).2):=fun st nx h h1 e=>
 hf _ _ (h.mono (bg.grow st nx).1) h1 (Pc e).1
theorem Up.id:Up (fun st nx=>(st,nx)):=fun st nx h h1=>h1
theorem Up.take(sp:bD)(fo nt:Bool):Up (fun st nx=>(st++[pk sp fo nt nx.2],((st.length:Int),(st.length:Int)))):=fun st nx h h1 e=>by simp only at e;omega
theorem Up.rS(s:Int->MS):Up (eZ s):=fun st nx h h1 e=>by
 unfold eZ at e;rw[if_neg h1]at e;split at e
 ·simp only at e;omega
 ·simp only at e;omega
theorem Up.gH(hf:Up f)(bf:BS f c):∀m,Up (nc f m)
 |0=>Up.id
 |m+1=>(Up.gH hf bf m).comp hf bf
theorem Qx(f:aH×aH->aH×aH):∀(m:Nat) (p:aH×aH),ox f m (f p)=ox f (m+1) p
 |0,p=>rfl
 |m+1,p=>by
  show f (ox f m (f p))=f (ox f (m+1) p)
  rw[Qx f m p]
theorem eH.gH(hf:eH x f sf)(bf:BS f c)(up:Up f):∀m,eH x (nc f m) (ox sf m)
 |0=>eH.id x
 |m+1=>by
  have:=(eH.gH hf bf up m).comp hf (bf.gH m) bf (up.gH bf m);have e:(fun p=>ox sf m (sf p))=ox sf (m+1):=funext fun p=>Qx sf m p
  rw[e]at this;exact this
theorem QQ(lz:Bool)(hf:eH x f sf)(bf:BS f c)(up:Up f)(nx:Ex):∀(m:Nat) (st:List MS) (al:Ex),cZ st.length nx->cZ st.length al->
 (nx.1= -1->(fJ f lz nx m st al).2.1= -1->al.1= -1/\∀(K Ka:aH×aH),(∀i gs,K.1 i gs=none)->(∀i gs,Ka.1 i gs=none)->∀i gs,(ox (yQ sf lz K) m Ka).1 i gs=none)/\
 (al.1≠ -1->(fJ f lz nx m st al).2.1≠ -1)/\
 (∀M,gL M st.length (fJ f lz nx m st al).1.length (fJ f lz nx m st al).1->∀(K Ka:aH×aH) (i:Nat),i<=x.l.length->
   ((∀gs,kH M x nx.1 i gs (K.1 i gs))->(∀j,i<j->j<=x.l.length->∀gs,cM M x nx.2 j gs (K.2 j gs))->(∀gs,kH M x al.1 i gs (Ka.1 i gs))->(∀j,i<j->j<=x.l.length->∀gs,cM M x al.2 j gs (Ka.2 j gs))->
     ∀gs,kH M x (fJ f lz nx m st al).2.1 i gs ((ox (yQ sf lz K) m Ka).1 i gs))/\
   ((∀j,i<=j->j<=x.l.length->∀gs,cM M x nx.2 j gs (K.2 j gs))->(∀j,i<=j->j<=x.l.length->∀gs,cM M x al.2 j gs (Ka.2 j gs))->∀gs,cM M x (fJ f lz nx m st al).2.2 i gs ((ox (yQ sf lz K) m Ka).2 i gs)))
 |0,st,al,h,ha=>⟨fun _ e=>⟨e,fun K Ka _ Uh=>Uh⟩,fun h2=>h2,fun M hM K Ka i hi=>⟨fun _ _ h3 _ gs=>h3 gs,fun _ h3 gs=>h3 i (Ab _) hi gs⟩⟩
 |m+1,st,al,h,ha=>by
  have g1:=bf.grow st al;have g2:=tM lz (f st al).1 (f st al).2 nx;have x1:=bf.fG st al ha;have ok:=yi (st:=(f st al).1) lz (f:=(f st al).2) (s:=nx) x1.lR (h.mono g1.1).lR (Or.inl (by have:=x1.1;omega));have hx':cZ (dg lz (f st al).1 (f st al).2 nx).1.length nx:=h.mono (by omega);have ih:=QQ lz hf bf up nx m (dg lz (f st al).1 (f st al).2 nx).1 (dg lz (f st al).1 (f st al).2 nx).2 hx' ok.1;have gm:=((bf.nK lz m).grow nx (dg lz (f st al).1 (f st al).2 nx).1 (dg lz (f st al).1 (f st al).2 nx).2);refine⟨fun h1 h3=>?_,fun h2=>?_,fun M hM K Ka i hi=>?_⟩
  ·have yn:(fJ f lz nx m (dg lz (f st al).1 (f st al).2 nx).1 (dg lz (f st al).1 (f st al).2 nx).2).2.1= -1:=h3;have e:=ih.1 h1 yn;have e1:=(OY lz e.1).1;have wU:al.1= -1:=(Dq fun c=>up st al ha c e1);refine⟨wU,fun K Ka hK Uh i gs=>?_⟩;rw[<-Qx];exact e.2 K _ hK (fun i gs=>aaD lz (hf.rU st al ha wU e1 Ka Uh i gs) (hK i gs)) i gs
  ·exact ih.2.1 fun e=>up st al ha h2 (OY lz e).1
  ·have tP:gL M st.length (fJ f lz nx m (dg lz (f st al).1 (f st al).2 nx).1 (dg lz (f st al).1 (f st al).2 nx).2).1.length (fJ f lz nx m (dg lz (f st al).1 (f st al).2 nx).1 (dg lz (f st al).1 (f st al).2 nx).2).1:=hM;have hE:gL M st.length (dg lz (f st al).1 (f st al).2 nx).1.length (dg lz (f st al).1 (f st al).2 nx).1:=tP.left gm.2 gm.1;have hF:gL M st.length (f st al).1.length (f st al).1:=hE.left g2.2.1 g2.1;have rf:=(fun j hj=>hf.iy st al ha M hF Ka j hj);have re:=fun j gs=>aaH (gs:=gs) (i:=j) (x:=x) (A:=sf Ka) (B:=K) lz (hE.right (a:=(f st al).1) g1.1)
   have mv:∀j,j<=x.l.length->(∀k,j<=k->k<=x.l.length->∀gs,cM M x nx.2 k gs (K.2 k gs))->(∀k,j<=k->k<=x.l.length->∀gs,cM M x al.2 k gs (Ka.2 k gs))->∀gs,cM M x (dg lz (f st al).1 (f st al).2 nx).2.2 j gs ((yQ sf lz K Ka).2 j gs):=fun j hj a1 a2 gs=>
    ((re j gs).2 (Or.inr ((rf j hj).2 a2 gs)) (Or.inr (a1 j (Ab _) hj gs))).iy (by have:=ok.1.1;omega)
   have r:=ih.2.2 M (tP.right (by omega)) K (yQ sf lz K Ka) i hi;rw[<-Qx];refine⟨fun h3 h4 h5 h6 gs=>?_,fun h3 h4 gs=>?_⟩
   ·exact r.1 h3 h4 (fun gs=>(re i gs).1 ((rf i hi).1 h5 h6 gs) (h3 gs)) (fun j j1 j2 gs=>mv j j2 (fun k k1 k2=>h4 k (by omega) k2) (fun k k1 k2=>h6 k (by omega) k2) gs) gs
   ·exact r.2 h3 (fun j j1 j2 gs=>mv j j2 (fun k k1 k2=>h3 k (by omega) k2) (fun k k1 k2=>h4 k (by omega) k2) gs) gs
theorem eH.nK(lz:Bool)(hf:eH x f sf)(bf:BS f c)(up:Up f)(m:Nat):eH x (fun st nx=>fJ f lz nx m st nx) (fun p=>ox (yQ sf lz p) m p) where
 rU st nx h h1 h2 K hK:=((QQ lz hf bf up nx m st nx h h).1 h1 h2).2 K K hK hK
 iy st nx h M hM K i hi:=by
  have r:=(QQ lz hf bf up nx m st nx h h).2.2 M hM K K i hi;exact⟨fun a b=>r.1 a b a b,fun a=>r.2 a a⟩
theorem Up.nK(lz:Bool)(hf:eH x f sf)(bf:BS f c)(up:Up f)(m:Nat):Up (fun st nx=>fJ f lz nx m st nx):=fun st nx h h1=>
 (QQ lz hf bf up nx m st nx h h).2.1 h1
theorem Up.loop(f:Bl)(lz:Bool):Up (nb f lz):=fun st nx h h1 e=>by
 unfold nb qj at e;exact h1 (OY lz e).2
theorem eH.loop(lz:Bool)(hf:eH x f sf)(bf:BS f c)(hl:dB x.l.length sf):eH x (nb f lz) (ur x sf lz) where
 rU st nx h h1 h2 K hK i gs:=by
  unfold nb qj at h2;have e:=OY lz h2;have hx:cZ (st++[bL]).length (-1,(st.length:Int)):=by simp only[Aj,Ax,Bb];unfold cZ;simp only;omega
  unfold ur;exact aaD lz (hf.rU _ _ hx rfl e.1 (fS,_) (fun _ _=>rfl) i gs) (hK i gs)
 iy st nx h M hM K i hi:=by
  have hln:(st++[bL]).length=st.length+1:=by simp
  have hx:cZ (st++[bL]).length (-1,(st.length:Int)):=by rw[hln];unfold cZ;simp only;omega
  have g1:=bf.grow (st++[bL]) (-1,st.length);have x1:=bf.fG (st++[bL]) (-1,st.length) hx;have ns:=hf.rU (st++[bL]) (-1,st.length) hx rfl;have rf:=hf.iy (st++[bL]) (-1,st.length) hx M;have n2:nx.2≠ -1:=by have:=h.1;omega
  unfold nb qj at hM⊢;generalize hP:f (st++[bL]) (-1,st.length)=P at*;obtain⟨S,t,u⟩:=P;simp only[Bk]at hM g1 x1 ns rf⊢;have g2:=tM lz S (t,t) nx;by_cases ht:t= -1
  ·subst ht;rw[aaF]at hM⊢;have z:∀(A:aH) i gs,(sf (fS,A)).1 i gs=none:=fun A i gs=>ns rfl (fS,A) (fun _ _=>rfl) i gs
   have e1:∀i gs,(ur x sf lz K).1 i gs=K.1 i gs:=fun i gs=>by
    unfold ur qn
    cases lz
    ·simp only[Aq,if_false,n_,g_];rw[z]
    ·simp only[if_true,n_,g_];rw[z];cases K.1 i gs<;>rfl
   have e2:∀i gs,(ur x sf lz K).2 i gs=K.2 i gs:=fun i gs=>by
    unfold ur qn
    cases lz
    ·simp only[Aq,if_false,n_,g_];rw[z]
    ·simp only[if_true,n_,g_];rw[z];cases K.2 i gs<;>rfl
   exact⟨fun h3 _ gs=>by rw[e1];exact h3 gs,fun h3 gs=>by rw[e2];exact h3 i (Ab _) hi gs⟩
  ·have em:=aaE lz S (t:=t) (nx:=nx) ht n2;have er:=(fun j gs=>aaH (M:=M) (st:=S) (f:=(t,t)) (s:=nx) (gs:=gs) (i:=j) (x:=x) (A:=((sf (fS,tH x.l.length sf lz K.2)).1,(sf (fS,tH x.l.length sf lz K.2)).1)) (B:=K) lz);have ok:=yi (st:=S) lz (f:=(t,t)) (s:=nx) ⟨x1.2,x1.2⟩ (h.mono (by omega)).lR (Or.inr n2);generalize hE:dg lz S (t,t) nx=E at*
   have kQ:E.1.getD E.2.2.toNat bL=(if lz then j_ nx.2 t else j_ t nx.2):=by
    rw[em.1,Ay,Af,em.2];rfl
   rw[kQ]at hM
   have hA:M[st.length]? =some (if lz then j_ nx.2 t else j_ t nx.2):=by
    rw[hM st.length (Ab _) (by omega)];exact Ea (by omega)
   have tP:gL M (st.length+1) E.1.length E.1:=fun j h1 h2=>by
    rw[hM j (by omega) h2,Em (by omega)]
   have hMS:gL M (st++[bL]).length S.length S:=by rw[hln];exact gL.left tP g2.2.1 g2.1
   have hME:gL M S.length E.1.length E.1:=fun j h1 h2=>tP j (by omega) h2
   have lX:∀j,j<=x.l.length->(∀k,j<k->k<=x.l.length->∀gs,cM M x (st.length:Int) k gs (tH x.l.length sf lz K.2 k gs))->∀gs,cM M x t j gs ((sf (fS,tH x.l.length sf lz K.2)).1 j gs):=fun j hj hk gs=>
    ((rf hMS (fS,tH x.l.length sf lz K.2) j hj).1 (fun gs=>Or.inl ⟨rfl,rfl⟩) hk gs).iy ht
   have again:∀d j,x.l.length-j<=d->j<=x.l.length->(∀k,j<=k->k<=x.l.length->∀gs,cM M x nx.2 k gs (K.2 k gs))->∀gs,cM M x (st.length:Int) j gs (tH x.l.length sf lz K.2 j gs):=by
    intro d;induction d with
    |zero=>
     intro j hd hj hk gs;have rt:=lX j hj (fun k k1 k2=>by omega) gs;have rn:=hk j (Ab _) hj gs;rw[ZM hl lz K.2 j hj gs]
     cases lz
     ·simp only[Aq,if_false]at hA⊢;unfold g_
      cases e:(sf (fS,tH x.l.length sf false K.2)).1 j gs with
      |none=>rw[e]at rt;exact cM.zS _ _ _ _ _ hA rfl rt rn
      |some v=>rw[e]at rt;exact cM.zT _ _ _ _ _ hA rfl rt
     ·simp only[if_true]at hA⊢;unfold g_
      cases e:K.2 j gs with
      |none=>rw[e]at rn;exact cM.zS _ _ _ _ _ hA rfl rn rt
      |some v=>rw[e]at rn;exact cM.zT _ _ _ _ _ hA rfl rn
    |succ d ih=>
     intro j hd hj hk gs;have rt:=lX j hj (fun k k1 k2 gs=>ih k (by omega) k2 (fun k' a b=>hk k' (by omega) b) gs) gs;have rn:=hk j (Ab _) hj gs;rw[ZM hl lz K.2 j hj gs]
     cases lz
     ·simp only[Aq,if_false]at hA⊢;unfold g_
      cases e:(sf (fS,tH x.l.length sf false K.2)).1 j gs with
      |none=>rw[e]at rt;exact cM.zS _ _ _ _ _ hA rfl rt rn
      |some v=>rw[e]at rt;exact cM.zT _ _ _ _ _ hA rfl rt
     ·simp only[if_true]at hA⊢;unfold g_
      cases e:K.2 j gs with
      |none=>rw[e]at rn;exact cM.zS _ _ _ _ _ hA rfl rn rt
      |some v=>rw[e]at rn;exact cM.zT _ _ _ _ _ hA rfl rn
   refine⟨fun h3 h4 gs=>?_,fun h3 gs=>?_⟩
   ·exact(er i gs hME).1 (Or.inr (lX i hi (fun k k1 k2 gs=>again _ k (Ab _) k2 (fun k' a b=>h4 k' (by omega) b) gs) gs)) (h3 gs)
   ·refine((er i gs hME).2 (Or.inr (lX i hi (fun k k1 k2 gs=>again _ k (Ab _) k2 (fun k' a b=>h3 k' (by omega) b) gs) gs)) (Or.inr (h3 i (Ab _) hi gs))).iy ?_;have:=ok.1.1;omega
theorem eH.we(hf:eH x f sf)(bf:BS f c)(hl:dB x.l.length sf)(up:Up f)(lo hi:Int)(lz:Bool):eH x (nd f lo hi lz) (ze x sf lo hi lz):=by
 unfold nd ze;by_cases e:hi= -1
 ·simp only[e,if_true];exact(hf.gH bf up lo.toNat).comp (hf.loop lz bf hl) (bf.gH _) (bf.loop lz) (up.gH bf _)
 ·simp only[e,if_false];exact(hf.gH bf up lo.toNat).comp (hf.nK lz bf up (hi-lo).toNat) (bf.gH _) (bf.nK lz _).bs (up.gH bf _)
theorem Up.we(hf:eH x f sf)(bf:BS f c)(up:Up f)(lo hi:Int)(lz:Bool):Up (nd f lo hi lz):=by
 unfold nd;by_cases e:hi= -1
 ·simp only[e,if_true];exact(up.gH bf _).comp (Up.loop f lz) (bf.loop lz)
 ·simp only[e,if_false];exact(up.gH bf _).comp (Up.nK lz hf bf up _) (bf.nK lz _).bs
mutual
def CT.gO(G:Int):CT->Prop
 |.node k sp fo nt ed gr lo hi lz cN=>0<=gr/\gr<=G/\CT.fq G cN
def CT.fq(G:Int):List CT->Prop
 | []=>True
 |c::cs=>CT.gO G c/\CT.fq G cs
end
mutual
theorem KP(x:TX)(G:Int):∀C:CT,C.ok->C.sz<=1000->C.gO G->eH x (bm C) (tn x C)/\Up (bm C)
 |.node k sp fo nt ed gr lo hi lz cN,h,hs,hg=>by
  unfold CT.ok at h;unfold CT.gO at hg;obtain⟨h1,h2,h3,h5,h6⟩:=h;obtain⟨g1,g2,g3⟩:=hg;have hn:=CT.v_ cN h6;have sL:=afW x G cN h6;have l8:=ZT cN h6;have ED:=ZV x G cN h6;have Ep:=ZQ x G cN h6;have akk:=aeu x cN;unfold CT.sz at hs;unfold bm tn;by_cases k0:k=0
  ·simp only[k0,if_true,true_or]at hs⊢;exact⟨eH.take x sp fo nt,Up.take sp fo nt⟩
  ·by_cases k1:k=1
   ·simp only[k1,if_true,true_or,or_true,Int.reduceEq,if_false]at hs⊢;exact⟨eH.qT x ed,Up.rS _⟩
   ·by_cases k2:k=2
    ·simp only[k2,if_true,or_true,Int.reduceEq,if_false]at hs⊢;have hO:=sL (by omega) (h2 (Or.inl k2)) g3;have bO:=l8 (by omega) (h2 (Or.inl k2));by_cases g0:gr=0
     ·simp only[g0,if_true];exact hO
     ·simp only[g0,if_false];have m1:=eH.mark x (2*(gr-1)+1) (2*(gr.toNat-1)+1) (by omega);have m0:=eH.mark x (2*(gr-1)) (2*(gr.toNat-1)) (by omega);have b1:=BS.mark (2*(gr-1)+1);have u1:Up (eZ (iG (2*(gr-1)+1))):=Up.rS _;exact⟨m0.comp (hO.1.comp m1 bO b1 hO.2) (BS.mark _) (bO.comp b1) (Up.rS _),(Up.rS _).comp (hO.2.comp u1 b1) (bO.comp b1)⟩
    ·have Ty:¬(k=0\/k=1\/k=2):=(by omega);rw[if_neg Ty]at hs;simp only[k0,k1,k2,if_false];by_cases k3:k=3
     ·simp only[k3,if_true,Int.reduceEq,if_false]at hs⊢;exact ED (by omega) g3
     ·by_cases k4:k=4
      ·simp only[k4,if_true,Int.reduceEq,if_false]at hs⊢;have hp:=Bp.2 (h3 k4);exact Ep (by omega) (h3 k4) g3
      ·have k5:k=5:=(by omega);simp only[k5,if_true,Int.reduceEq,if_false]at hs⊢;have hb:=h5 k5;have hc:0<=(if hi= -1 then lo+1 else hi)/\(if hi= -1 then lo+1 else hi)<=21:=by split<;>omega
       generalize ju:(if hi= -1 then lo+1 else hi)=cc at*
       by_cases z:cc=0
       ·have cP:hi=0/\lo=0:=by split at ju<;>omega
        have e:nd (Go.Proofs.YtpdnofhackjfdaaGreatDoor.l8 cN) lo hi lz=fun st nx=>(st,nx):=by
         funext st nx
         unfold nd;rw[cP.1,cP.2];rfl
        have e':(fun st nx=>nd (Go.Proofs.YtpdnofhackjfdaaGreatDoor.l8 cN) lo hi lz st nx)=fun st nx=>(st,nx):=by rw[e]
        have e2:(fun nx=>ze x (xC x cN) lo hi lz nx)=fun nx=>nx:=by
         funext nx
         unfold ze;rw[cP.1,cP.2];rfl
        rw[e',e2];exact⟨eH.id x,Up.id⟩
       ·have hm:cc*(CT.cB cN+1)<=1000:=by omega
        have gP:CT.cB cN+1<=cc*(CT.cB cN+1):=by
         have:=D0 (show 1<=cc by omega) (show 0<=CT.cB cN+1 by omega);rw[Int.one_mul]at this;exact this
        have hO:=sL (by omega) (h2 (Or.inr k5)) g3;have bO:=l8 (by omega) (h2 (Or.inr k5));exact⟨eH.we hO.1 bO akk hO.2 lo hi lz,Up.we hO.1 bO hO.2 lo hi lz⟩
theorem afW(x:TX)(G:Int):∀cs:List CT,CT.d_ cs->CT.cB cs<=1000->cs.length=1->CT.fq G cs->eH x (l8 cs) (xC x cs)/\Up (l8 cs)
 | [],_,_,hl,_=>by simp at hl
 | [c],h,hs,_,hg=>by
   unfold CT.d_ at h;unfold CT.fq at hg;simp only[CT.cB,Int.add_zero]at hs;unfold l8 xC;exact KP x G c h.1 hs hg.1
 |c::d::cs,h,hs,hl,_=>by simp at hl
theorem ZV(x:TX)(G:Int):∀cs:List CT,CT.d_ cs->CT.cB cs<=1000->CT.fq G cs->eH x (j7 cs) (y8 x cs)/\Up (j7 cs)
 | [],_,_,_=>by unfold j7 y8;exact⟨eH.id x,Up.id⟩
 |c::cs,h,hs,hg=>by
  unfold CT.d_ at h;unfold CT.fq at hg;have h1:=CT.zb c h.1;have h2:=CT.v_ cs h.2;unfold CT.cB at hs;unfold j7 y8;have a:=KP x G c h.1 (by omega) hg.1;have b:=ZV x G cs h.2 (by omega) hg.2;have ba:=nV c h.1 (by omega);have bb:=Th cs h.2 (by omega);exact⟨a.1.comp b.1 ba bb a.2,a.2.comp b.2 bb⟩
theorem ZQ(x:TX)(G:Int):∀cs:List CT,CT.d_ cs->CT.cB cs<=1000->cs≠ []->CT.fq G cs->eH x (jf cs) (xB x cs)/\Up (jf cs)
 | [],_,_,hl,_=>absurd rfl hl
 | [c],h,hs,_,hg=>by
   unfold CT.d_ at h;unfold CT.fq at hg;simp only[CT.cB,Int.add_zero]at hs;unfold jf xB;exact KP x G c h.1 hs hg.1
 |c::d::cs,h,hs,hl,hg=>by
  have hc:CT.ok c/\CT.d_ (d::cs):=by unfold CT.d_ at h;exact h
  have nF:CT.gO G c/\CT.fq G (d::cs):=by unfold CT.fq at hg;exact hg
  have h1:=CT.zb c hc.1;have h2:=CT.v_ (d::cs) hc.2;have qF:CT.sz c+CT.cB (d::cs)<=1000:=by unfold CT.cB at hs;exact hs
  have a:=KP x G c hc.1 (by omega) nF.1;have b:=ZQ x G (d::cs) hc.2 (by omega) (by simp) nF.2;have ba:=nV c hc.1 (by omega);have bb:=Tg (d::cs) hc.2 (by omega) (by simp);unfold jf xB;exact⟨a.1.aE b.1 ba bb,a.2.aE bb⟩
end
structure VS where
 num:List Int
 aK:List Nat
 bC:List Nat
def VS.put(V:VS)(s:Nat):VS:=⟨V.num.set s V.aK.length,V.aK++[s],V.bC⟩
def VS.iu(V:VS)(t:Nat):VS:=⟨V.num,V.aK,V.bC++[t]⟩
inductive lh(M:List MS):VS->Int->VS->Prop where
 |aJ (V:VS) (s:Nat) (v:Int) (h:V.num[s]? =some v) (hv:v≠ -1):lh M V s V
 |stop (V:VS) (s:Nat) (m:MS) (hn:V.num[s]? =some (-1)) (h:M[s]? =some m) (hk:m.kind≠1/\m.kind≠2/\m.kind≠3/\m.kind≠4):lh M V s (V.put s)
 |take (V:VS) (s:Nat) (m:MS) (hn:V.num[s]? =some (-1)) (h:M[s]? =some m) (hk:m.kind=1):lh M V s ((V.iu m.next.toNat).put s)
 |one (V V':VS) (s:Nat) (m:MS) (hn:V.num[s]? =some (-1)) (h:M[s]? =some m) (hk:m.kind=2\/m.kind=3) (hv:lh M V m.next V'):lh M V s (V'.put s)
 |cE (V V' V2:VS) (s:Nat) (m:MS) (hn:V.num[s]? =some (-1)) (h:M[s]? =some m) (hk:m.kind=4) (hv:lh M V m.next V') (hw:lh M V' m.a_ V2):lh M V s (V2.put s)
def tG(M:List MS)(s t:Int):Prop:=∃(j:Nat) (m:MS),s=j/\M[j]? =some m/\(((m.kind=2\/m.kind=3\/m.kind=4)/\t=m.next)\/(m.kind=4/\t=m.a_))
inductive Reach(M:List MS):Int->Int->Prop where
 |refl (s:Int):Reach M s s
 |step (s t u:Int) (h:tG M s t) (hr:Reach M t u):Reach M s u
theorem Reach.trans{c:Int}(h:Reach M a b)(h':Reach M b c):Reach M a c:=by
 induction h with
 |refl s=>exact h'
 |step s t u hs hr ih=>exact Reach.step s t c hs (ih h')
theorem eL.ac3(h:eL M s):∀c,tG M s c->¬Reach M c s:=by
 have key:∀{s c:Int},tG M s c->(∀d,tG M c d->¬Reach M d c)->¬Reach M c s:=by
  intro s c hs ih hr
  cases hr with
  |refl=>exact ih _ hs (Reach.refl _)
  |step _ d _ hd hr=>exact ih d hd (hr.trans (Reach.step _ _ _ hs (Reach.refl _)))
 induction h with
 |stop s m hm hk=>
  rintro c ⟨j,m',hj,h1,h2⟩;have:j=s:=by omega
  subst this;rw[hm]at h1
  cases h1;omega
 |one s m hm hk hn ih=>
  intro c hc;refine key hc ?_;obtain⟨j,m',hj,h1,h2⟩:=hc;have:j=s:=by omega
  subst this;rw[hm]at h1
  cases h1;rcases h2 with h2|h2
  ·rw[h2.2];exact ih
  ·omega
 |cE s m hm hk hn ho ih uh=>
  intro c hc;refine key hc ?_;obtain⟨j,m',hj,h1,h2⟩:=hc;have:j=s:=by omega
  subst this;rw[hm]at h1
  cases h1;rcases h2 with h2|h2
  ·rw[h2.2];exact ih
  ·rw[h2.2];exact uh
structure jB(M:List MS)(R:Nat->Prop)(V:VS):Prop where
 len:V.num.length=M.length
 u_:V.aK.length=V.num.countP (fun v=>v != -1)
 has:∀(s:Nat) (v:Int),V.num[s]? =some v->v≠ -1->∃k:Nat,v=k/\V.aK[k]? =some s
 at_:∀(k s:Nat),V.aK[k]? =some s->V.num[s]? =some (k:Int)
 Qv:∀s∈V.aK,R s
 bC:∀t∈V.bC,R t
 next:∀(k s:Nat) (m:MS),V.aK[k]? =some s->M[s]? =some m->(m.kind=1->m.next.toNat∈V.bC)/\(∀t,tG M s t->∃k':Nat,k'<k/\V.num[t.toNat]? =some (k':Int))
structure mG(M:List MS)(s:Int)(V V':VS):Prop where
 aK:∃l,V'.aK=V.aK++l/\∀t∈l,Reach M s (t:Int)
 bC:∃l,V'.bC=V.bC++l
theorem mG.refl(M:List MS)(s:Int)(V:VS):mG M s V V:=⟨⟨[],by simp,fun t h=>by simp at h⟩,⟨[],by simp⟩⟩
theorem mG.trans{t u:Int}{V V' V2:VS}(h:mG M s V V')(h':mG M t V' V2)(hs:Reach M u s)(ht:Reach M u t):mG M u V V2:=by
 obtain⟨⟨l,h1,h2⟩,⟨l',h3⟩⟩:=h;obtain⟨⟨k,k1,k2⟩,⟨k',k3⟩⟩:=h';refine⟨⟨l++k,by rw[k1,h1,Bw],fun x hx=>?_⟩,⟨l'++k',by rw[k3,h3,Bw]⟩⟩;rcases Ap.1 hx with hx|hx
 ·exact hs.trans (h2 x hx)
 ·exact ht.trans (k2 x hx)
theorem jB.ac8{V V':VS}(h:jB M R V)(h':jB M R V')(e:mG M s V V'){v:Int}(ht:V.num[t]? =some v)(hv:v≠ -1):V'.num[t]? =some v:=by
 obtain⟨k,rfl,hk⟩:=h.has t v ht hv;obtain⟨⟨l,h1,_⟩,_⟩:=e;refine h'.at_ k t ?_;rw[h1,A6 (Ah.1 hk).1];exact hk
theorem jB.Xj{V V':VS}(h:jB M R V)(h':jB M R V')(e:mG M s V V')(ht:V.num[t]? =some (-1))(hr:¬Reach M s t):V'.num[t]? =some (-1):=by
 have aw:t<V'.num.length:=by rw[h'.len,<-h.len];exact(Ah.1 ht).1
 have hv:V'.num[t]? =some V'.num[t]:=Ae aw;by_cases hn:V'.num[t]= -1
 ·rw[hv,hn]
 ·exfalso
  obtain⟨k,e1,hk⟩:=h'.has t _ hv hn;obtain⟨⟨l,h1,h2⟩,_⟩:=e;rw[h1]at hk;by_cases jH:k<V.aK.length
  ·rw[A6 jH]at hk;have:=h.at_ k t hk;rw[ht]at this
   cases this
  ·rw[Bt (by omega)]at hk;exact hr (h2 t (Ca hk))
theorem jB.put{V:VS}(h:jB M R V){s:Nat}(hn:V.num[s]? =some (-1))(hR:R s)
 (hs:∀m,M[s]? =some m->(m.kind=1->m.next.toNat∈V.bC)/\(∀t,tG M s t->∃k':Nat,V.num[t.toNat]? =some (k':Int))):jB M R (V.put s):=by
 have aw:=(Ah.1 hn).1
 have kQ:∀t:Nat,(V.put s).num[t]? =if t=s then some (V.aK.length:Int)else V.num[t]? :=by
  intro t;show(V.num.set s (V.aK.length:Int))[t]? =_
  by_cases e:t=s
  ·subst e;rw[Ea aw,if_pos rfl]
  ·rw[Em (fun e'=>e e'.symm),if_neg e]
 have hold:∀(k t:Nat),V.aK[k]? =some t->t≠s:=by
  intro k t hk e;subst e;have:=h.at_ k t hk;rw[hn]at this
  cases this
 refine⟨by show(V.num.set s _).length=_;rw[Bk];exact h.len,?_,fun t v ht hv=>?_,fun k t hk=>?_,fun t ht=>?_,h.bC,fun k t m hk hm=>?_⟩
 ·show(V.aK++[s]).length=(V.num.set s (V.aK.length:Int)).countP _
  have e:V.num[s]= -1:=by
   have:=Ae aw;rw[hn]at this;exact(C6 this).symm
  rw[List.countP_set aw,e,<-h.u_];have:((V.aK.length:Int) != -1)=true:=by simp
  simp[this]
 ·rw[kQ]at ht;by_cases e:t=s
  ·rw[if_pos e]at ht
   cases ht;exact⟨V.aK.length,rfl,by show(V.aK++[s])[V.aK.length]? =_;simp[e]⟩
  ·rw[if_neg e]at ht;obtain⟨k,e1,hk⟩:=h.has t v ht hv;exact⟨k,e1,by show(V.aK++[s])[k]? =_;rw[A6 (Ah.1 hk).1];exact hk⟩
 ·rw[kQ];have gA:(V.aK++[s])[k]? =some t:=hk;by_cases jH:k<V.aK.length
  ·rw[A6 jH]at gA;rw[if_neg (hold k t gA)];exact h.at_ k t gA
  ·have:k=V.aK.length:=by
    have:=(Ah.1 gA).1;simp at this;omega
   subst this;simp at gA;rw[if_pos gA.symm]
 ·have:t∈V.aK++[s]:=ht;rcases Ap.1 this with h1|h1
  ·exact h.Qv t h1
  ·simp at h1;subst h1;exact hR
 ·have gA:(V.aK++[s])[k]? =some t:=hk;by_cases jH:k<V.aK.length
  ·rw[A6 jH]at gA;obtain⟨a1,a2⟩:=h.next k t m gA hm
   refine⟨a1,fun u hu=>?_⟩;obtain⟨k',h1,h2⟩:=a2 u hu;refine⟨k',h1,?_⟩;rw[kQ];by_cases e:u.toNat=s
   ·rw[e,hn]at h2;cases h2
   ·rw[if_neg e];exact h2
  ·have:k=V.aK.length:=by
    have:=(Ah.1 gA).1;simp at this;omega
   subst this;simp at gA;subst gA;obtain⟨a1,a2⟩:=hs m hm;refine⟨a1,fun u hu=>?_⟩;obtain⟨k',h2⟩:=a2 u hu;have eT:=h.has u.toNat k' h2 (by omega);obtain⟨k2,e2,h3⟩:=eT;refine⟨k',by have:=(Ah.1 h3).1;omega,?_⟩;rw[kQ];by_cases e:u.toNat=s
   ·rw[e,hn]at h2;cases h2
   ·rw[if_neg e];exact h2
theorem mG.put{V V':VS}(h:mG M s V V')(ht:Reach M s t):mG M s V (V'.put t):=by
 obtain⟨⟨l,h1,h2⟩,⟨l',h3⟩⟩:=h;refine⟨⟨l++[t],by show V'.aK++[t]=_;rw[h1,Bw],fun x hx=>?_⟩,⟨l',h3⟩⟩;rcases Ap.1 hx with hx|hx
 ·exact h2 x hx
 ·simp at hx;subst hx;exact ht
theorem VS.Re{V:VS}{s:Nat}(h:s<V.num.length):(V.put s).num[s]? =some (V.aK.length:Int):=Ea h
structure Shut(M:List MS)(R:Nat->Prop):Prop where
 vf:∀s:Nat,R s->eL M s
 cl:∀s:Nat,R s->∃m,M[s]? =some m/\DG (fun t=>∃j:Nat,t=j/\R j) m
theorem jB.iu{V:VS}(h:jB M R V)(ht:R t):jB M R (V.iu t):=
 ⟨h.len,h.u_,h.has,h.at_,h.Qv,fun x hx=>by
   rcases Ap.1 (show x∈V.bC++[t]from hx)with h1|h1
   ·exact h.bC x h1
   ·simp at h1;subst h1;exact ht,fun k s m a b=>⟨fun c=>List.mem_append_left _ ((h.next k s m a b).1 c),(h.next k s m a b).2⟩⟩
theorem tG.kind{s:Nat}{t:Int}{m:MS}(h:tG M s t)(hm:M[s]? =some m):((m.kind=2\/m.kind=3\/m.kind=4)/\t=m.next)\/(m.kind=4/\t=m.a_):=by
 obtain⟨j,m',hj,h1,h2⟩:=h;have:j=s:=by omega
 subst this;rw[hm]at h1
 cases h1;exact h2
theorem Shut.Wh(hS:Shut M R){V:VS}{s:Nat}(hV:jB M R V)(hR:R s):(∃k:Nat,V.num[s]? =some (k:Int))\/V.num[s]? =some (-1):=by
 obtain⟨m,hm,_⟩:=hS.cl s hR;have aw:s<V.num.length:=by rw[hV.len];exact(Ah.1 hm).1
 have hv:V.num[s]? =some V.num[s]:=Ae aw;by_cases e:V.num[s]= -1
 ·right;rw[hv,e]
 ·left
  obtain⟨k,e1,_⟩:=hV.has s _ hv e;exact⟨k,by rw[hv,e1]⟩
theorem aoD(hS:Shut M R)(hE:eL M s):∀V,jB M R V->(∃j:Nat,s=j/\R j)->
 ∃V',lh M V s V'/\jB M R V'/\mG M s V V'/\(∃k:Nat,V'.num[s.toNat]? =some (k:Int))/\V'.bC.length+V.aK.length<=V.bC.length+V'.aK.length:=by
 induction hE with
 |stop s m hm hk=>
  rintro V hV ⟨j,hj,hR⟩;have:j=s:=by omega
  subst this;rcases hS.Wh hV hR with⟨k,h1⟩|hn
  ·exact⟨V,lh.aJ V j k h1 (by omega),hV,mG.refl M _ V,⟨k,by simpa using h1⟩,Ab _⟩
  ·have aw:=(Ah.1 hn).1;by_cases k1:m.kind=1
   ·obtain⟨m',fR,hc⟩:=hS.cl j hR;rw[hm]at fR;cases fR;obtain⟨t,ht,hRt⟩:=hc.1 (Or.inl k1);have hV':jB M R (V.iu m.next.toNat):=hV.iu (by rw[ht];simpa using hRt);have e1:mG M (j:Int) V (V.iu m.next.toNat):=⟨⟨[],by simp[VS.iu],fun t h=>by simp at h⟩,⟨[m.next.toNat],rfl⟩⟩;refine⟨(V.iu m.next.toNat).put j,lh.take V j m hn hm k1,hV'.put hn hR (fun m' fR=>?_),e1.put (Reach.refl _),⟨V.aK.length,by simpa using(show((V.iu m.next.toNat).put j).num[j]? =some (V.aK.length:Int)from VS.Re (V:=V.iu m.next.toNat) aw)⟩,?_⟩
    ·rw[hm]at fR;cases fR;exact⟨fun _=>by show m.next.toNat∈V.bC++[m.next.toNat];simp,fun t ht=>by have:=ht.kind hm;omega⟩
    ·show(V.bC++[m.next.toNat]).length+V.aK.length<=V.bC.length+(V.aK++[j]).length
     simp only[Aj,Ax,Bb];omega
   ·refine⟨V.put j,lh.stop V j m hn hm ⟨k1,hk⟩,hV.put hn hR (fun m' fR=>?_),(mG.refl M _ V).put (Reach.refl _),⟨V.aK.length,by simpa using VS.Re aw⟩,?_⟩
    ·rw[hm]at fR;cases fR;exact⟨fun e=>absurd e k1,fun t ht=>by have:=ht.kind hm;omega⟩
    ·show V.bC.length+V.aK.length<=V.bC.length+(V.aK++[j]).length
     simp only[Aj,Ax,Bb];omega
 |one s m hm hk hn ih=>
  rintro V hV ⟨j,hj,hR⟩;have:j=s:=by omega
  subst this;have IL:=(eL.one j m hm hk hn).ac3;have bt:tG M j m.next:=⟨j,m,rfl,hm,Or.inl ⟨by omega,rfl⟩⟩
  rcases hS.Wh hV hR with⟨k,h1⟩|hnu
  ·exact⟨V,lh.aJ V j k h1 (by omega),hV,mG.refl M _ V,⟨k,by simpa using h1⟩,Ab _⟩
  ·have aw:=(Ah.1 hnu).1;obtain⟨m',fR,hc⟩:=hS.cl j hR;rw[hm]at fR;cases fR;obtain⟨V',v1,v2,v3,⟨k,v4⟩,v5⟩:=ih V hV (hc.1 (by omega));have nH:=hV.Xj v2 v3 hnu (IL _ bt);have e3:mG M (j:Int) V V':=(mG.refl M (j:Int) V).trans v3 (Reach.refl _) (Reach.step _ _ _ bt (Reach.refl _));refine⟨V'.put j,lh.one V V' j m hnu hm hk v1,v2.put nH hR (fun m' fR=>?_),e3.put (Reach.refl _),⟨V'.aK.length,by simpa using VS.Re (V:=V') (by rw[v2.len,<-hV.len];exact aw)⟩,?_⟩
   ·rw[hm]at fR;cases fR;refine⟨fun e=>by omega,fun t ht=>?_⟩;have:=ht.kind hm;have e:t=m.next:=(by omega);rw[e]
    exact⟨k,v4⟩
   ·show V'.bC.length+V.aK.length<=V.bC.length+(V'.aK++[j]).length
    simp only[Aj,Ax,Bb];omega
 |cE s m hm hk hn ho ih uh=>
  rintro V hV ⟨j,hj,hR⟩;have:j=s:=by omega
  subst this;have IL:=(eL.cE j m hm hk hn ho).ac3;have bt:tG M j m.next:=⟨j,m,rfl,hm,Or.inl ⟨by omega,rfl⟩⟩
  have Mr:tG M j m.a_:=⟨j,m,rfl,hm,Or.inr ⟨by omega,rfl⟩⟩;rcases hS.Wh hV hR with⟨k,h1⟩|hnu
  ·exact⟨V,lh.aJ V j k h1 (by omega),hV,mG.refl M _ V,⟨k,by simpa using h1⟩,Ab _⟩
  ·have aw:=(Ah.1 hnu).1;obtain⟨m',fR,hc⟩:=hS.cl j hR;rw[hm]at fR;cases fR;obtain⟨V',v1,v2,v3,⟨k,v4⟩,v5⟩:=ih V hV (hc.1 (by omega));obtain⟨V2,w1,w2,w3,⟨k',w4⟩,w5⟩:=uh V' v2 (hc.2 hk);have nH:=v2.Xj w2 w3 (hV.Xj v2 v3 hnu (IL _ bt)) (IL _ Mr);have e3:mG M (j:Int) V V2:=v3.trans w3 (Reach.step _ _ _ bt (Reach.refl _)) (Reach.step _ _ _ Mr (Reach.refl _));refine⟨V2.put j,lh.cE V V' V2 j m hnu hm hk v1 w1,w2.put nH hR (fun m' fR=>?_),e3.put (Reach.refl _),⟨V2.aK.length,by simpa using VS.Re (V:=V2) (by rw[w2.len,<-hV.len];exact aw)⟩,?_⟩
   ·rw[hm]at fR;cases fR;refine⟨fun e=>by omega,fun t ht=>?_⟩;have:=ht.kind hm;by_cases e:t=m.next
    ·rw[e];exact⟨k,v2.ac8 w2 w3 v4 (by omega)⟩
    ·have e:t=m.a_:=(by omega);rw[e];exact⟨k',w4⟩
   ·show V2.bC.length+V.aK.length<=V.bC.length+(V2.aK++[j]).length
    simp only[Aj,Ax,Bb];omega
inductive qg(M:List MS):Nat->VS->VS->Prop where
 |done (at_:Nat) (V:VS) (h:V.bC.length<=at_):qg M at_ V V
 |step (at_:Nat) (V V' V2:VS) (t:Nat) (h:V.bC[at_]? =some t) (hv:lh M V t V') (hl:qg M (at_+1) V' V2):qg M at_ V V2
theorem jB.adk{V:VS}(h:jB M R V):V.aK.length<=M.length:=by
 rw[h.u_,<-h.len];exact Fd
theorem acB(hS:Shut M R):∀(n at_:Nat) (V:VS),M.length+2-at_<=n->jB M R V->at_<=V.bC.length->V.bC.length<=1+V.aK.length->(∀k t:Nat,k<at_->V.bC[k]? =some t->∃u:Nat,V.num[t]? =some (u:Int))->
 ∃V',qg M at_ V V'/\jB M R V'/\(∃l,V'.bC=V.bC++l)/\∀t∈V'.bC,∃u:Nat,V'.num[t]? =some (u:Int)
 |0,at_,V,hn,hV,hle,dh,UI=>by
  have:=hV.adk;omega
 |n+1,at_,V,hn,hV,hle,dh,UI=>by
  by_cases aw:at_<V.bC.length
  ·have ht:V.bC[at_]? =some V.bC[at_]:=Ae aw;have hR:=hV.bC _ (A5 aw);obtain⟨V',v1,v2,v3,⟨k,v4⟩,v5⟩:=aoD hS (hS.vf _ hR) V hV ⟨_,rfl,hR⟩;obtain⟨l,hl⟩:=v3.bC;have cT:V'.bC.length=V.bC.length+l.length:=by rw[hl,Aj]
   obtain⟨V2,w1,w2,⟨l',w3⟩,w4⟩:=acB hS n (at_+1) V' (by omega) v2 (by omega) (by omega) (fun i t hi hit=>by
    have lr:i<V.bC.length:=(by omega);rw[hl,A6 lr]at hit;by_cases e:i=at_
    ·subst e;rw[ht]at hit
     cases hit;exact⟨k,by simpa using v4⟩
    ·obtain⟨u,hu⟩:=UI i t (by omega) hit;exact⟨u,hV.ac8 v2 v3 hu (by omega)⟩)
   exact⟨V2,qg.step at_ V V' V2 _ ht v1 w1,w2,⟨l++l',by rw[w3,hl,Bw]⟩,w4⟩
  ·refine⟨V,qg.done at_ V (by omega),hV,⟨[],by simp⟩,fun t ht=>?_⟩;obtain⟨i,hi,rfl⟩:=C4 ht;exact UI i _ (by omega) (Ae hi)
def VS.first(n start:Nat):VS:=⟨List.replicate n (-1),[],[start]⟩
theorem jB.first(h:R start):jB M R (VS.first M.length start) where
 len:=by simp[VS.first]
 u_:=by simp[VS.first,List.countP_replicate]
 has s v h1 h2:=by
  have:v= -1:=by
   have:=Ca h1;simp[VS.first]at this;exact this.2
  exact absurd this h2
 at_ k s h1:=by simp[VS.first]at h1
 Qv s h1:=by simp[VS.first]at h1
 bC t h1:=by simp[VS.first]at h1;subst h1;exact h
 next k s m h1:=by simp[VS.first]at h1
def sorted(M:List MS)(V:VS):List MS:=V.aK.map fun s=>{M.getD s bL with next:=V.num.getD (M.getD s bL).next.toNat 0,a_:=V.num.getD (M.getD s bL).a_.toNat 0}
theorem alC(hS:Shut M R)(h:R start):∃V,qg M 0 (VS.first M.length start) V/\jB M R V/\∀t,(t=start\/∃(s:Nat) (m:MS),s∈V.aK/\M[s]? =some m/\m.kind=1/\t=m.next.toNat)->∃u:Nat,V.num[t]? =some (u:Int):=by
 obtain⟨V,h1,h2,⟨l,h3⟩,h4⟩:=acB hS (M.length+2) 0 (VS.first M.length start) (by omega) (jB.first h) (Am _) (by simp[VS.first]) (fun k t hk=>by omega);refine⟨V,h1,h2,fun t ht=>h4 t ?_⟩;rcases ht with rfl|⟨s,m,hs,hm,hk,rfl⟩
 ·rw[h3];simp[VS.first]
 ·obtain⟨k,gA,qF⟩:=C4 hs;exact(h2.next k s m (by rw[Ae gA,qF]) hm).1 hk
def e_(C:CT):List MS×Ex:=bm C [⟨0,[],false,false,0,0,0,0⟩] (0,0)
theorem agq{C:CT}(h:C.ok)(hs:C.sz<=1000):∃R,Shut (e_ C).1 R/\(∃j:Nat,(e_ C).2.2=j/\R j)/\oF (e_ C).1/\1<=(e_ C).1.length/\(e_ C).1.length<=4001:=by
 have hb:=nV C h hs;have hx:cZ [bL].length (0,0):=by unfold cZ;simp
 have g:=hb.grow [bL] (0,0);have f:=hb.bT [bL] (0,0);have hn:=CT.zb C h;have ha:=hb.nU [bL] (0,0) hx (by intro m hm;simp at hm;subst hm;unfold sy bL;simp);obtain⟨N,hN⟩:=hb.sub [bL] (0,0) hx (e_ C).1 (fun j _ _=>rfl)
 have h0:(e_ C).1[0]? =some bL:=by
  have:=Lt g.2 (j:=0) (by simp);exact this
 have e0:eL (e_ C).1 ((0:Nat):Int):=eL.stop 0 bL h0 (by simp[bL])
 have yJ:∀{t:Int},jN N (0,0) t->∃j:Nat,t=j/\(N j\/j=0):=by
  intro t ht;rcases ht with⟨j,h1,h2⟩|h1|⟨h1,_⟩
  ·exact⟨j,h1,Or.inl h2⟩
  ·exact⟨0,h1,Or.inr rfl⟩
  ·exact⟨0,h1,Or.inr rfl⟩
 refine⟨fun j=>N j\/j=0,⟨fun s hs=>?_,fun s hs=>?_⟩,yJ hN.rP,ha,g.1,?_⟩
 ·rcases hs with hs|rfl
  ·exact hN.es e0 (Or.inr e0) s hs
  ·exact e0
 ·rcases hs with hs|rfl
  ·obtain⟨m,h1,h2⟩:=hN.cl s hs;exact⟨m,h1,h2.mono (fun t ht=>yJ ht)⟩
  ·exact⟨bL,h0,fun h=>by simp[bL]at h,fun h=>by simp[bL]at h⟩
 ·show(bm C [bL] (0,0)).1.length<=4001
  simp only[Ax,Bb]at f;omega
end Go.Proofs.YtpdnofhackjfdaaGreatDoor
