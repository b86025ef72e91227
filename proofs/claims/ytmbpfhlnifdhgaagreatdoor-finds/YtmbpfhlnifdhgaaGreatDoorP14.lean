/- What the states that the builder makes match -/
import Derived.Test.YtmbpfhlnifdhgaaGreatDoorP13
set_option linter.unusedVariables false
set_option linter.unusedSimpArgs false
set_option maxRecDepth 100000
set_option maxHeartbeats 2000000
namespace Go.Proofs.YtmbpfhlnifdhgaaGreatDoor
open Go.Proofs.Tryz
variable {f:Bl} {s:ByteArray} {C a:CT} {k:aD} {A B:aD×aD} {sf sg:aD×aD->aD×aD} {G G' b lo:Int} {gs:List Int} {M ms st:List MS} {l:List UInt8} {m:MS} {c d i j n u:Nat} {O R:Nat->Prop} {told:Option Nat} {g:RG} {sp:bN} {x:TX} {V:VS}
abbrev gN:=Option (Nat×List Int)
inductive bA(M:List MS)(x:TX):Int->Nat->List Int->gN->Prop where
 |done (s:Nat) (m:MS) (i:Nat) (gs:List Int) (h:M[s]? =some m) (hk:m.aT=0):bA M x s i gs (some (i,gs))
 |iq (s:Nat) (m:MS) (i:Nat) (gs:List Int) (r:gN) (h:M[s]? =some m) (hk:m.aT=1) (ht:(decide (i<x.l.length)&&mM m.sp m.fo m.nt (x.dd i))=true) (hn:bA M x m.next (i+1) gs r):bA M x s i gs r
 |gE (s:Nat) (m:MS) (i:Nat) (gs:List Int) (h:M[s]? =some m) (hk:m.aT=1) (ht:(decide (i<x.l.length)&&mM m.sp m.fo m.nt (x.dd i))=false):bA M x s i gs none
 |AP (s:Nat) (m:MS) (i:Nat) (gs:List Int) (r:gN) (h:M[s]? =some m) (hk:m.aT=2) (he:qF x m.kN i=true) (hn:bA M x m.next i gs r):bA M x s i gs r
 |AO (s:Nat) (m:MS) (i:Nat) (gs:List Int) (h:M[s]? =some m) (hk:m.aT=2) (he:qF x m.kN i=false):bA M x s i gs none
 |mark (s:Nat) (m:MS) (i:Nat) (gs:List Int) (r:gN) (h:M[s]? =some m) (hk:m.aT=3) (hn:bA M x m.next i (gs.set m.slot.toNat (x.eX i)) r):bA M x s i gs r
 |tU (s:Nat) (m:MS) (i:Nat) (gs:List Int) (v:Nat×List Int) (h:M[s]? =some m) (hk:m.aT=4) (hn:bA M x m.next i gs (some v)):bA M x s i gs (some v)
 |tT (s:Nat) (m:MS) (i:Nat) (gs:List Int) (r:gN) (h:M[s]? =some m) (hk:m.aT=4) (hn:bA M x m.next i gs none) (ho:bA M x m.ch i gs r):bA M x s i gs r
theorem bA.JF{s:Int}{r:gN}(h:bA M x s i gs r):0<=s:=by
 cases h<;>omega
def lk(M:List MS)(x:TX)(s:Int)(i:Nat)(gs:List Int)(r:gN):Prop:=(s= -1/\r=none)\/bA M x s i gs r
theorem lk.jf{s:Int}{r:gN}(h:lk M x s i gs r)(hs:s≠ -1):bA M x s i gs r:=h.resolve_left fun e=>hs e.1
theorem lk.none{s:Int}{r:gN}(h:lk M x s i gs r)(hs:s= -1):r=Option.none:=by
 rcases h with h|h
 ·exact h.2
 ·have:=h.JF;omega
structure fb(x:TX)(f:Bl)(XV:aD×aD->aD×aD):Prop where
 tp:∀st nx,dv st.length nx->nx.1= -1->(f st nx).2.1= -1->∀(K:aD×aD),(∀i gs,K.1 i gs=none)->∀i gs,(XV K).1 i gs=none
 jf:∀st nx,dv st.length nx->∀M,gO M st.length (f st nx).1.length (f st nx).1->∀(K:aD×aD) (i:Nat),i<=x.l.length->
  ((∀gs,lk M x nx.1 i gs (K.1 i gs))->(∀j,i<j->j<=x.l.length->∀gs,bA M x nx.2 j gs (K.2 j gs))->∀gs,lk M x (f st nx).2.1 i gs ((XV K).1 i gs))/\
  ((∀j,i<=j->j<=x.l.length->∀gs,bA M x nx.2 j gs (K.2 j gs))->∀gs,bA M x (f st nx).2.2 i gs ((XV K).2 i gs))
theorem fb.id(x:TX):fb x (fun st nx=>(st,nx)) (fun p=>p) where
 tp st nx h h1 h2 K hK:=hK
 jf st nx h M hM K i hi:=⟨fun a _=>a,fun a gs=>a i (Aa _) hi gs⟩
theorem fb.comp{g:Bl}(hf:fb x f sf)(hg:fb x g sg)(bf:BS f c)(bg:BS g d)
 (up:∀st nx,dv st.length nx->nx.1≠ -1->(f st nx).2.1≠ -1):fb x (fun st nx=>f (g st nx).1 (g st nx).2) (fun p=>sf (sg p)) where
 tp st nx h h1 h2 K hK:=by
  have hx:=bg.fG st nx h;by_cases e:(g st nx).2.1= -1
  ·exact hf.tp _ _ hx e h2 (sg K) (hg.tp st nx h h1 e K hK)
  ·exact absurd h2 (up _ _ hx e)
 jf st nx h M hM K i hi:=by
  have a:=bg.grow st nx;have b:=bf.grow (g st nx).1 (g st nx).2;have hMg:gO M st.length (g st nx).1.length (g st nx).1:=hM.left b.2 b.1;have hMf:gO M (g st nx).1.length (f (g st nx).1 (g st nx).2).1.length (f (g st nx).1 (g st nx).2).1:=hM.right a.1;have rg:=fun j hj=>hg.jf st nx h M hMg K j hj
  have rf:=hf.jf (g st nx).1 (g st nx).2 (bg.fG _ _ h) M hMf (sg K) i hi;refine⟨fun h3 h4=>?_,fun h3=>?_⟩
  ·exact rf.1 ((rg i hi).1 h3 h4) (fun j j1 j2=>(rg j j2).2 (fun k k1 k2=>h4 k (by omega) k2))
  ·exact rf.2 (fun j j1 j2=>(rg j j2).2 (fun k k1 k2=>h3 k (by omega) k2))
def Up(f:Bl):Prop:=∀st nx,dv st.length nx->nx.1≠ -1->(f st nx).2.1≠ -1
theorem fb.take(x:TX)(sp:bN)(fo nt:Bool):fb x (fun st nx=>(st++[qt sp fo nt nx.2],((st.length:Int),(st.length:Int)))) (fun p=>(pP x sp fo nt p.2,pP x sp fo nt p.2)) where
 tp st nx h h1 h2:=by simp only at h2;omega
 jf st nx h M hM K i hi:=by
  have hm:M[st.length]? =some (qt sp fo nt nx.2):=hM.at (Aa _) (by simp) (zm _ _)
  have key:(∀j,i<j->j<=x.l.length->∀gs,bA M x nx.2 j gs (K.2 j gs))->∀gs,bA M x (st.length:Int) i gs (pP x sp fo nt K.2 i gs):=by
   intro h4 gs;unfold pP;by_cases c:(decide (i<x.l.length)&&mM sp fo nt (x.dd i))=true
   ·rw[if_pos c];have ar:i<x.l.length:=by simp at c;exact c.1
    exact bA.iq _ _ _ _ _ hm rfl c (h4 (i+1) (by omega) ar gs)
   ·rw[if_neg c];exact bA.gE _ _ _ _ hm rfl (Ck.2 c)
  exact⟨fun _ h4 gs=>Or.inr (key h4 gs),fun h4 gs=>key (fun j j1 j2=>h4 j (by omega) j2) gs⟩
theorem fb.tl{s:Int->MS}{L:aD->aD}(hz:∀k i,(∀gs,k i gs=none)->∀gs,L k i gs=none)
 (hl:∀(M:List MS) (a:Nat) (n:Int) (k:aD) (i:Nat),i<=x.l.length->M[a]? =some (s n)->(∀gs,bA M x n i gs (k i gs))->∀gs,bA M x a i gs (L k i gs)):fb x (ft s) (fun p=>(L p.1,L p.2)) where
 tp st nx h h1 h2 K hK i gs:=hz _ i (hK i) gs
 jf st nx h M hM K i hi:=by
  have h0:=h;unfold dv at h0;unfold ft at hM⊢;by_cases c1:nx.1=nx.2
  ·rw[if_pos c1]at hM⊢;have hm:M[st.length]? =some (s nx.2):=hM.at (Aa _) (by simp) (zm _ _);exact⟨fun h3 _ gs=>Or.inr (hl M _ _ K.1 i hi hm (fun gs=>by have:=(h3 gs).jf (by omega);rw[c1]at this;exact this) gs),fun h3 gs=>hl M _ _ K.2 i hi hm (h3 i (Aa _) hi) gs⟩
  ·rw[if_neg c1]at hM⊢;by_cases c2:nx.1= -1
   ·rw[if_pos c2]at hM⊢;have hm:M[st.length]? =some (s nx.2):=hM.at (Aa _) (by simp) (zm _ _);exact⟨fun h3 _ gs=>Or.inl ⟨rfl,hz _ i (fun gs=>(h3 gs).none c2) gs⟩,fun h3 gs=>hl M _ _ K.2 i hi hm (h3 i (Aa _) hi) gs⟩
   ·rw[if_neg c2]at hM⊢;have hm:M[st.length]? =some (s nx.2):=hM.at (Aa _) (by simp) (by simp);have DH:M[st.length+1]? =some (s nx.1):=hM.at (by omega) (by simp) (by simp);exact⟨fun h3 _ gs=>Or.inr (hl M (st.length+1) _ K.1 i hi DH (fun gs=>(h3 gs).jf c2) gs),fun h3 gs=>hl M _ _ K.2 i hi hm (h3 i (Aa _) hi) gs⟩
theorem fb.vQ(x:TX)(e:Int):fb x (ft (tC e)) (E5 x e):=
 fb.tl (L:=xC x e) (fun k i h gs=>by unfold xC;split<;>simp[h]) (fun M a n k i hi hm h gs=>by
  unfold xC;by_cases c:qF x e i=true
  ·rw[if_pos c];exact bA.AP _ _ _ _ _ hm rfl c (h gs)
  ·rw[if_neg c];exact bA.AO _ _ _ _ hm rfl (Ck.2 c))
theorem fb.mark(x:TX)(n:Int)(k:Nat)(hk:n.toNat=k):fb x (ft (iG n)) (yz x k):=
 fb.tl (L:=zW x k) (fun c i h gs=>h _) (fun M a m c i hi hm h gs=>by
  refine bA.mark _ _ _ _ _ hm rfl ?_;show bA M x m i (gs.set n.toNat (x.eX i)) _
  rw[hk];exact h _)
theorem Pn{a:Int}{A B:aD}(hM:gO M st.length (ei st a b).1.length (ei st a b).1)(ha:lk M x a i gs (A i gs))(hb:lk M x b i gs (B i gs)):
 lk M x (ei st a b).2 i gs (fT A B i gs):=by
 unfold ei at hM⊢;unfold fT;by_cases c1:a= -1
 ·rw[if_pos c1,ha.none c1];exact hb
 ·rw[if_neg c1]at hM⊢;by_cases c2:b= -1
  ·rw[if_pos c2,hb.none c2]
   cases e:A i gs with
   |none=>simp only;rw[e]at ha;exact ha
   |some v=>simp only;rw[e]at ha;exact ha
  ·rw[if_neg c2]at hM⊢;have hm:M[st.length]? =some (kR a b):=hM.at (Aa _) (by simp) (zm _ _);have ra:=ha.jf c1;have rb:=hb.jf c2
   cases e:A i gs with
   |none=>simp only;rw[e]at ra;exact Or.inr (bA.tT _ _ _ _ _ hm rfl ra rb)
   |some v=>simp only;rw[e]at ra;exact Or.inr (bA.tU _ _ _ _ _ hm rfl ra)
theorem Pp{f s:Ex}(hM:gO M st.length (gx st f s).1.length (gx st f s).1):
 (lk M x f.1 i gs (A.1 i gs)->lk M x s.1 i gs (B.1 i gs)->lk M x (gx st f s).2.1 i gs ((kQ A B).1 i gs))/\
 (lk M x f.2 i gs (A.2 i gs)->lk M x s.2 i gs (B.2 i gs)->lk M x (gx st f s).2.2 i gs ((kQ A B).2 i gs)):=by
 unfold gx at hM⊢;by_cases c:f.1=f.2/\s.1=s.2
 ·rw[if_pos c]at hM⊢;refine⟨fun a b=>?_,fun a b=>Pn hM a b⟩;rw[c.1]at a;rw[c.2]at b;exact Pn hM a b
 ·rw[if_neg c]at hM⊢;have g1:=u9 st f.2 s.2;have g2:=u9 (ei st f.2 s.2).1 f.1 s.1;refine⟨fun a b=>Pn (hM.right g1.1) a b,fun a b=>Pn (hM.left g2.2.1 g2.1) a b⟩
theorem aaX{f s:Ex}(lz:Bool)(hM:gO M st.length (dE lz st f s).1.length (dE lz st f s).1):
 (lk M x f.1 i gs (A.1 i gs)->lk M x s.1 i gs (B.1 i gs)->lk M x (dE lz st f s).2.1 i gs ((nK lz A B).1 i gs))/\
 (lk M x f.2 i gs (A.2 i gs)->lk M x s.2 i gs (B.2 i gs)->lk M x (dE lz st f s).2.2 i gs ((nK lz A B).2 i gs)):=by
 unfold dE nK at*
 cases lz
 ·simp only[Ag,if_false]at*;exact Pp hM
 ·simp only[if_true]at*;exact⟨fun a b=>(Pp hM).1 b a,fun a b=>(Pp hM).2 b a⟩
theorem Uq{A B:aD}(ha:A i gs=none)(hb:B i gs=none):fT A B i gs=none:=by unfold fT;rw[ha];exact hb
theorem aaT(lz:Bool)(ha:A.1 i gs=none)(hb:B.1 i gs=none):(nK lz A B).1 i gs=none:=by
 unfold nK;cases lz
 ·exact Uq ha hb
 ·exact Uq hb ha
theorem abh{a:Int}(h:(ei st a b).2= -1):a= -1/\b= -1:=by
 unfold ei at h;split at h
 ·exact⟨by assumption,h⟩
 ·split at h
  ·exact⟨h,by assumption⟩
  ·simp only at h;omega
theorem Po{f s:Ex}(h:(gx st f s).2.1= -1):f.1= -1/\s.1= -1:=by
 unfold gx at h;split at h
 ·next c=>have:=abh h;omega
 ·exact abh h
theorem Pk{f s:Ex}(lz:Bool)(h:(dE lz st f s).2.1= -1):f.1= -1/\s.1= -1:=by
 unfold dE at h;cases lz
 ·exact Po h
 ·exact(Po h).symm
theorem fb.aw{g:Bl}(hf:fb x f sf)(hg:fb x g sg)(bf:BS f c)(bg:BS g d):
 fb x (fun st nx=>gx (f (g st nx).1 nx).1 (f (g st nx).1 nx).2 (g st nx).2) (fun p=>kQ (sf p) (sg p)) where
 tp st nx h h1 h2 K hK i gs:=by
  have e:=Po h2;have a:=bg.grow st nx;exact Uq (hf.tp _ _ (h.mono a.1) h1 e.1 K hK i gs) (hg.tp _ _ h h1 e.2 K hK i gs)
 jf st nx h M hM K i hi:=by
  have a:=bg.grow st nx;have b:=bf.grow (g st nx).1 nx;have e:=F5 (f (g st nx).1 nx).1 (f (g st nx).1 nx).2 (g st nx).2;have abD:gO M st.length (f (g st nx).1 nx).1.length (f (g st nx).1 nx).1:=hM.left e.2.1 e.1;have rg:=hg.jf st nx h M (abD.left b.2 b.1) K i hi;have rf:=hf.jf (g st nx).1 nx (h.mono a.1) M (abD.right a.1) K i hi;have xf:=bf.fG (g st nx).1 nx (h.mono a.1);have xg:=bg.fG st nx h;have r:=fun gs=>Pp (gs:=gs) (i:=i) (x:=x) (A:=sf K) (B:=sg K) (hM.right (a:=(f (g st nx).1 nx).1) (Bf a.1 b.1))
  refine⟨fun h3 h4 gs=>(r gs).1 (rf.1 h3 h4 gs) (rg.1 h3 h4 gs),fun h3 gs=>((r gs).2 (Or.inr (rf.2 h3 gs)) (Or.inr (rg.2 h3 gs))).jf ?_⟩;have ok:=IB (st:=(f (g st nx).1 nx).1) (f:=(f (g st nx).1 nx).2) (s:=(g st nx).2) xf.mI (xg.mono b.1).mI (Or.inl (by have:=xf.1;omega));have:=ok.1.1;omega
theorem Up.comp{g:Bl}(hf:Up f)(hg:Up g)(bg:BS g d):Up (fun st nx=>f (g st nx).1 (g st nx).2):=fun st nx h h1=>hf _ _ (bg.fG _ _ h) (hg _ _ h h1)
theorem Up.aw{g:Bl}(hf:Up f)(bg:BS g d):Up (fun st nx=>gx (f (g st nx).1 nx).1 (f (g st nx).1 nx).2 (g st nx).2):=fun st nx h h1 e=>
 hf _ _ (h.mono (bg.grow st nx).1) h1 (Po e).1
theorem Up.id:Up (fun st nx=>(st,nx)):=fun st nx h h1=>h1
theorem Up.take(sp:bN)(fo nt:Bool):Up (fun st nx=>(st++[qt sp fo nt nx.2],((st.length:Int),(st.length:Int)))):=fun st nx h h1 e=>by simp only at e;omega
theorem Up.tl(s:Int->MS):Up (ft s):=fun st nx h h1 e=>by
 unfold ft at e;rw[if_neg h1]at e;split at e
 ·simp only at e;omega
 ·simp only at e;omega
theorem Up.nj(hf:Up f)(bf:BS f c):∀m,Up (ow f m)
 |0=>Up.id
 |m+1=>(Up.nj hf bf m).comp hf bf
theorem QS(f:aD×aD->aD×aD):∀(m:Nat) (p:aD×aD),pF f m (f p)=pF f (m+1) p
 |0,p=>rfl
 |m+1,p=>by
  show f (pF f m (f p))=f (pF f (m+1) p)
  rw[QS f m p]
theorem fb.nj(hf:fb x f sf)(bf:BS f c)(up:Up f):∀m,fb x (ow f m) (pF sf m)
 |0=>fb.id x
 |m+1=>by
  have:=(fb.nj hf bf up m).comp hf (bf.nj m) bf (up.nj bf m);have e:(fun p=>pF sf m (sf p))=pF sf (m+1):=funext fun p=>QS sf m p
  rw[e]at this;exact this
theorem Rx(lz:Bool)(hf:fb x f sf)(bf:BS f c)(up:Up f)(nx:Ex):∀(m:Nat) (st:List MS) (al:Ex),dv st.length nx->dv st.length al->
 (nx.1= -1->(fI f lz nx m st al).2.1= -1->al.1= -1/\∀(K Ka:aD×aD),(∀i gs,K.1 i gs=none)->(∀i gs,Ka.1 i gs=none)->∀i gs,(pF (AB sf lz K) m Ka).1 i gs=none)/\
 (al.1≠ -1->(fI f lz nx m st al).2.1≠ -1)/\
 (∀M,gO M st.length (fI f lz nx m st al).1.length (fI f lz nx m st al).1->∀(K Ka:aD×aD) (i:Nat),i<=x.l.length->
   ((∀gs,lk M x nx.1 i gs (K.1 i gs))->(∀j,i<j->j<=x.l.length->∀gs,bA M x nx.2 j gs (K.2 j gs))->(∀gs,lk M x al.1 i gs (Ka.1 i gs))->(∀j,i<j->j<=x.l.length->∀gs,bA M x al.2 j gs (Ka.2 j gs))->
     ∀gs,lk M x (fI f lz nx m st al).2.1 i gs ((pF (AB sf lz K) m Ka).1 i gs))/\
   ((∀j,i<=j->j<=x.l.length->∀gs,bA M x nx.2 j gs (K.2 j gs))->(∀j,i<=j->j<=x.l.length->∀gs,bA M x al.2 j gs (Ka.2 j gs))->∀gs,bA M x (fI f lz nx m st al).2.2 i gs ((pF (AB sf lz K) m Ka).2 i gs)))
 |0,st,al,h,ha=>⟨fun _ e=>⟨e,fun K Ka _ UT=>UT⟩,fun h2=>h2,fun M hM K Ka i hi=>⟨fun _ _ h3 _ gs=>h3 gs,fun _ h3 gs=>h3 i (Aa _) hi gs⟩⟩
 |m+1,st,al,h,ha=>by
  have g1:=bf.grow st al;have g2:=u6 lz (f st al).1 (f st al).2 nx;have x1:=bf.fG st al ha;have ok:=zj (st:=(f st al).1) lz (f:=(f st al).2) (s:=nx) x1.mI (h.mono g1.1).mI (Or.inl (by have:=x1.1;omega));have hx':dv (dE lz (f st al).1 (f st al).2 nx).1.length nx:=h.mono (by omega);have ih:=Rx lz hf bf up nx m (dE lz (f st al).1 (f st al).2 nx).1 (dE lz (f st al).1 (f st al).2 nx).2 hx' ok.1;have gm:=((bf.oT lz m).grow nx (dE lz (f st al).1 (f st al).2 nx).1 (dE lz (f st al).1 (f st al).2 nx).2);refine⟨fun h1 h3=>?_,fun h2=>?_,fun M hM K Ka i hi=>?_⟩
  ·have CP:(fI f lz nx m (dE lz (f st al).1 (f st al).2 nx).1 (dE lz (f st al).1 (f st al).2 nx).2).2.1= -1:=h3;have e:=ih.1 h1 CP;have e1:=(Pk lz e.1).1;have ha1:al.1= -1:=(Df fun c=>up st al ha c e1);refine⟨ha1,fun K Ka hK UT i gs=>?_⟩;rw[<-QS];exact e.2 K _ hK (fun i gs=>aaT lz (hf.tp st al ha ha1 e1 Ka UT i gs) (hK i gs)) i gs
  ·exact ih.2.1 fun e=>up st al ha h2 (Pk lz e).1
  ·have CQ:gO M st.length (fI f lz nx m (dE lz (f st al).1 (f st al).2 nx).1 (dE lz (f st al).1 (f st al).2 nx).2).1.length (fI f lz nx m (dE lz (f st al).1 (f st al).2 nx).1 (dE lz (f st al).1 (f st al).2 nx).2).1:=hM;have hE:gO M st.length (dE lz (f st al).1 (f st al).2 nx).1.length (dE lz (f st al).1 (f st al).2 nx).1:=CQ.left gm.2 gm.1;have hF:gO M st.length (f st al).1.length (f st al).1:=hE.left g2.2.1 g2.1;have rf:=(fun j hj=>hf.jf st al ha M hF Ka j hj);have re:=fun j gs=>aaX (gs:=gs) (i:=j) (x:=x) (A:=sf Ka) (B:=K) lz (hE.right (a:=(f st al).1) g1.1)
   have mv:∀j,j<=x.l.length->(∀k,j<=k->k<=x.l.length->∀gs,bA M x nx.2 k gs (K.2 k gs))->(∀k,j<=k->k<=x.l.length->∀gs,bA M x al.2 k gs (Ka.2 k gs))->∀gs,bA M x (dE lz (f st al).1 (f st al).2 nx).2.2 j gs ((AB sf lz K Ka).2 j gs):=fun j hj a1 a2 gs=>
    ((re j gs).2 (Or.inr ((rf j hj).2 a2 gs)) (Or.inr (a1 j (Aa _) hj gs))).jf (by have:=ok.1.1;omega)
   have r:=ih.2.2 M (CQ.right (by omega)) K (AB sf lz K Ka) i hi;rw[<-QS];refine⟨fun h3 h4 h5 h6 gs=>?_,fun h3 h4 gs=>?_⟩
   ·exact r.1 h3 h4 (fun gs=>(re i gs).1 ((rf i hi).1 h5 h6 gs) (h3 gs)) (fun j j1 j2 gs=>mv j j2 (fun k k1 k2=>h4 k (by omega) k2) (fun k k1 k2=>h6 k (by omega) k2) gs) gs
   ·exact r.2 h3 (fun j j1 j2 gs=>mv j j2 (fun k k1 k2=>h3 k (by omega) k2) (fun k k1 k2=>h4 k (by omega) k2) gs) gs
theorem fb.oT(lz:Bool)(hf:fb x f sf)(bf:BS f c)(up:Up f)(m:Nat):fb x (fun st nx=>fI f lz nx m st nx) (fun p=>pF (AB sf lz p) m p) where
 tp st nx h h1 h2 K hK:=((Rx lz hf bf up nx m st nx h h).1 h1 h2).2 K K hK hK
 jf st nx h M hM K i hi:=by
  have r:=(Rx lz hf bf up nx m st nx h h).2.2 M hM K K i hi;exact⟨fun a b=>r.1 a b a b,fun a=>r.2 a a⟩
theorem Up.oT(lz:Bool)(hf:fb x f sf)(bf:BS f c)(up:Up f)(m:Nat):Up (fun st nx=>fI f lz nx m st nx):=fun st nx h h1=>
 (Rx lz hf bf up nx m st nx h h).2.1 h1
theorem Up.loop(f:Bl)(lz:Bool):Up (ou f lz):=fun st nx h h1 e=>by
 unfold ou rC at e;exact h1 (Pk lz e).2
theorem fb.loop(lz:Bool)(hf:fb x f sf)(bf:BS f c)(hl:dR x.l.length sf):fb x (ou f lz) (so x sf lz) where
 tp st nx h h1 h2 K hK i gs:=by
  unfold ou rC at h2;have e:=Pk lz h2;have hx:dv (st++[cy]).length (-1,(st.length:Int)):=by simp only[Ao,A1,A8];unfold dv;simp only;omega
  unfold so;exact aaT lz (hf.tp _ _ hx rfl e.1 (fq,_) (fun _ _=>rfl) i gs) (hK i gs)
 jf st nx h M hM K i hi:=by
  have DG:(st++[cy]).length=st.length+1:=by simp
  have hx:dv (st++[cy]).length (-1,(st.length:Int)):=by rw[DG];unfold dv;simp only;omega
  have g1:=bf.grow (st++[cy]) (-1,st.length);have x1:=bf.fG (st++[cy]) (-1,st.length) hx;have ns:=hf.tp (st++[cy]) (-1,st.length) hx rfl;have rf:=hf.jf (st++[cy]) (-1,st.length) hx M;have n2:nx.2≠ -1:=by have:=h.1;omega
  unfold ou rC at hM⊢;generalize hP:f (st++[cy]) (-1,st.length)=P at*;obtain⟨S,t,u⟩:=P;simp only[Bw]at hM g1 x1 ns rf⊢;have g2:=u6 lz S (t,t) nx;by_cases ht:t= -1
  ·subst ht;rw[aaV]at hM⊢;have z:∀(A:aD) i gs,(sf (fq,A)).1 i gs=none:=fun A i gs=>ns rfl (fq,A) (fun _ _=>rfl) i gs
   have e1:∀i gs,(so x sf lz K).1 i gs=K.1 i gs:=fun i gs=>by
    unfold so nK
    cases lz
    ·simp only[Ag,if_false,kQ,fT];rw[z]
    ·simp only[if_true,kQ,fT];rw[z];cases K.1 i gs<;>rfl
   have e2:∀i gs,(so x sf lz K).2 i gs=K.2 i gs:=fun i gs=>by
    unfold so nK
    cases lz
    ·simp only[Ag,if_false,kQ,fT];rw[z]
    ·simp only[if_true,kQ,fT];rw[z];cases K.2 i gs<;>rfl
   exact⟨fun h3 _ gs=>by rw[e1];exact h3 gs,fun h3 gs=>by rw[e2];exact h3 i (Aa _) hi gs⟩
  ·have em:=aaU lz S (t:=t) (nx:=nx) ht n2;have er:=(fun j gs=>aaX (M:=M) (st:=S) (f:=(t,t)) (s:=nx) (gs:=gs) (i:=j) (x:=x) (A:=((sf (fq,nD x.l.length sf lz K.2)).1,(sf (fq,nD x.l.length sf lz K.2)).1)) (B:=K) lz);have ok:=zj (st:=S) lz (f:=(t,t)) (s:=nx) ⟨x1.2,x1.2⟩ (h.mono (by omega)).mI (Or.inr n2);generalize hE:dE lz S (t,t) nx=E at*
   have nS:E.1.getD E.2.2.toNat cy=(if lz then kR nx.2 t else kR t nx.2):=by
    rw[em.1,Cj,Ae,em.2];rfl
   rw[nS]at hM
   have hA:M[st.length]? =some (if lz then kR nx.2 t else kR t nx.2):=by
    rw[hM st.length (Aa _) (by omega)];exact Dt (by omega)
   have CQ:gO M (st.length+1) E.1.length E.1:=fun j h1 h2=>by
    rw[hM j (by omega) h2,A5 (by omega)]
   have hMS:gO M (st++[cy]).length S.length S:=by rw[DG];exact gO.left CQ g2.2.1 g2.1
   have hME:gO M S.length E.1.length E.1:=fun j h1 h2=>CQ j (by omega) h2
   have bR:∀j,j<=x.l.length->(∀k,j<k->k<=x.l.length->∀gs,bA M x (st.length:Int) k gs (nD x.l.length sf lz K.2 k gs))->∀gs,bA M x t j gs ((sf (fq,nD x.l.length sf lz K.2)).1 j gs):=fun j hj hk gs=>
    ((rf hMS (fq,nD x.l.length sf lz K.2) j hj).1 (fun gs=>Or.inl ⟨rfl,rfl⟩) hk gs).jf ht
   have again:∀d j,x.l.length-j<=d->j<=x.l.length->(∀k,j<=k->k<=x.l.length->∀gs,bA M x nx.2 k gs (K.2 k gs))->∀gs,bA M x (st.length:Int) j gs (nD x.l.length sf lz K.2 j gs):=by
    intro d;induction d with
    |zero=>
     intro j hd hj hk gs;have rt:=bR j hj (fun k k1 k2=>by omega) gs;have rn:=hk j (Aa _) hj gs;rw[Tw hl lz K.2 j hj gs]
     cases lz
     ·simp only[Ag,if_false]at hA⊢;unfold fT
      cases e:(sf (fq,nD x.l.length sf false K.2)).1 j gs with
      |none=>rw[e]at rt;exact bA.tT _ _ _ _ _ hA rfl rt rn
      |some v=>rw[e]at rt;exact bA.tU _ _ _ _ _ hA rfl rt
     ·simp only[if_true]at hA⊢;unfold fT
      cases e:K.2 j gs with
      |none=>rw[e]at rn;exact bA.tT _ _ _ _ _ hA rfl rn rt
      |some v=>rw[e]at rn;exact bA.tU _ _ _ _ _ hA rfl rn
    |succ d ih=>
     intro j hd hj hk gs;have rt:=bR j hj (fun k k1 k2 gs=>ih k (by omega) k2 (fun k' a b=>hk k' (by omega) b) gs) gs;have rn:=hk j (Aa _) hj gs;rw[Tw hl lz K.2 j hj gs]
     cases lz
     ·simp only[Ag,if_false]at hA⊢;unfold fT
      cases e:(sf (fq,nD x.l.length sf false K.2)).1 j gs with
      |none=>rw[e]at rt;exact bA.tT _ _ _ _ _ hA rfl rt rn
      |some v=>rw[e]at rt;exact bA.tU _ _ _ _ _ hA rfl rt
     ·simp only[if_true]at hA⊢;unfold fT
      cases e:K.2 j gs with
      |none=>rw[e]at rn;exact bA.tT _ _ _ _ _ hA rfl rn rt
      |some v=>rw[e]at rn;exact bA.tU _ _ _ _ _ hA rfl rn
   refine⟨fun h3 h4 gs=>?_,fun h3 gs=>?_⟩
   ·exact(er i gs hME).1 (Or.inr (bR i hi (fun k k1 k2 gs=>again _ k (Aa _) k2 (fun k' a b=>h4 k' (by omega) b) gs) gs)) (h3 gs)
   ·refine((er i gs hME).2 (Or.inr (bR i hi (fun k k1 k2 gs=>again _ k (Aa _) k2 (fun k' a b=>h3 k' (by omega) b) gs) gs)) (Or.inr (h3 i (Aa _) hi gs))).jf ?_;have:=ok.1.1;omega
theorem fb.times(hf:fb x f sf)(bf:BS f c)(hl:dR x.l.length sf)(up:Up f)(lo hi:Int)(lz:Bool):fb x (ox f lo hi lz) (l9 x sf lo hi lz):=by
 unfold ox l9;by_cases e:hi= -1
 ·simp only[e,if_true];exact(hf.nj bf up lo.toNat).comp (hf.loop lz bf hl) (bf.nj _) (bf.loop lz) (up.nj bf _)
 ·simp only[e,if_false];exact(hf.nj bf up lo.toNat).comp (hf.oT lz bf up (hi-lo).toNat) (bf.nj _) (bf.oT lz _).bs (up.nj bf _)
theorem Up.times(hf:fb x f sf)(bf:BS f c)(up:Up f)(lo hi:Int)(lz:Bool):Up (ox f lo hi lz):=by
 unfold ox;by_cases e:hi= -1
 ·simp only[e,if_true];exact(up.nj bf _).comp (Up.loop f lz) (bf.loop lz)
 ·simp only[e,if_false];exact(up.nj bf _).comp (Up.oT lz hf bf up _) (bf.oT lz _).bs
mutual
def CT.fy(G:Int):CT->Prop
 |.node k sp fo nt ed gr lo hi lz aJ=>0<=gr/\gr<=G/\CT.eI G aJ
def CT.eI(G:Int):List CT->Prop
 | []=>True
 |c::cs=>CT.fy G c/\CT.eI G cs
end
mutual
theorem KT(x:TX)(G:Int):∀C:CT,C.ok->C.sz<=1000->C.fy G->fb x (bQ C) (eH x C)/\Up (bQ C)
 |.node k sp fo nt ed gr lo hi lz aJ,h,hs,hg=>by
  unfold CT.ok at h;unfold CT.fy at hg;obtain⟨h1,h2,h3,h5,h6⟩:=h;obtain⟨g1,g2,g3⟩:=hg;have hn:=CT.xD aJ h6;have tY:=ags x G aJ h6;have mS:=Z6 aJ h6;have Ge:=Z8 x G aJ h6;have F8:=Z3 x G aJ h6;have akx:=aeX x aJ;unfold CT.sz at hs;unfold bQ eH;by_cases k0:k=0
  ·simp only[k0,if_true,true_or]at hs⊢;exact⟨fb.take x sp fo nt,Up.take sp fo nt⟩
  ·by_cases k1:k=1
   ·simp only[k1,if_true,true_or,or_true,Int.reduceEq,if_false]at hs⊢;exact⟨fb.vQ x ed,Up.tl _⟩
   ·by_cases k2:k=2
    ·simp only[k2,if_true,or_true,Int.reduceEq,if_false]at hs⊢;have hO:=tY (by omega) (h2 (Or.inl k2)) g3;have bO:=mS (by omega) (h2 (Or.inl k2));by_cases g0:gr=0
     ·simp only[g0,if_true];exact hO
     ·simp only[g0,if_false];have m1:=fb.mark x (2*(gr-1)+1) (2*(gr.toNat-1)+1) (by omega);have m0:=fb.mark x (2*(gr-1)) (2*(gr.toNat-1)) (by omega);have b1:=BS.mark (2*(gr-1)+1);have u1:Up (ft (iG (2*(gr-1)+1))):=Up.tl _;exact⟨m0.comp (hO.1.comp m1 bO b1 hO.2) (BS.mark _) (bO.comp b1) (Up.tl _),(Up.tl _).comp (hO.2.comp u1 b1) (bO.comp b1)⟩
    ·have Ud:¬(k=0\/k=1\/k=2):=(by omega);rw[if_neg Ud]at hs;simp only[k0,k1,k2,if_false];by_cases k3:k=3
     ·simp only[k3,if_true,Int.reduceEq,if_false]at hs⊢;exact Ge (by omega) g3
     ·by_cases k4:k=4
      ·simp only[k4,if_true,Int.reduceEq,if_false]at hs⊢;have hp:=Bu.2 (h3 k4);exact F8 (by omega) (h3 k4) g3
      ·have k5:k=5:=(by omega);simp only[k5,if_true,Int.reduceEq,if_false]at hs⊢;have hb:=h5 k5;have hc:0<=(if hi= -1 then lo+1 else hi)/\(if hi= -1 then lo+1 else hi)<=21:=by split<;>omega
       generalize mr:(if hi= -1 then lo+1 else hi)=cc at*
       by_cases z:cc=0
       ·have b_:hi=0/\lo=0:=by split at mr<;>omega
        have e:ox (Go.Proofs.YtmbpfhlnifdhgaaGreatDoor.mS aJ) lo hi lz=fun st nx=>(st,nx):=by
         funext st nx
         unfold ox;rw[b_.1,b_.2];rfl
        have e':(fun st nx=>ox (Go.Proofs.YtmbpfhlnifdhgaaGreatDoor.mS aJ) lo hi lz st nx)=fun st nx=>(st,nx):=by rw[e]
        have e2:(fun nx=>l9 x (uK x aJ) lo hi lz nx)=fun nx=>nx:=by
         funext nx
         unfold l9;rw[b_.1,b_.2];rfl
        rw[e',e2];exact⟨fb.id x,Up.id⟩
       ·have hm:cc*(CT.cW aJ+1)<=1000:=by omega
        have jx:CT.cW aJ+1<=cc*(CT.cW aJ+1):=by
         have:=Dk (show 1<=cc by omega) (show 0<=CT.cW aJ+1 by omega);rw[Int.one_mul]at this;exact this
        have hO:=tY (by omega) (h2 (Or.inr k5)) g3;have bO:=mS (by omega) (h2 (Or.inr k5));exact⟨fb.times hO.1 bO akx hO.2 lo hi lz,Up.times hO.1 bO hO.2 lo hi lz⟩
theorem ags(x:TX)(G:Int):∀cs:List CT,CT.de cs->CT.cW cs<=1000->cs.length=1->CT.eI G cs->fb x (mS cs) (uK x cs)/\Up (mS cs)
 | [],_,_,hl,_=>by simp at hl
 | [c],h,hs,_,hg=>by
   unfold CT.de at h;unfold CT.eI at hg;simp only[CT.cW,Int.add_zero]at hs;unfold mS uK;exact KT x G c h.1 hs hg.1
 |c::d::cs,h,hs,hl,_=>by simp at hl
theorem Z8(x:TX)(G:Int):∀cs:List CT,CT.de cs->CT.cW cs<=1000->CT.eI G cs->fb x (kL cs) (uL x cs)/\Up (kL cs)
 | [],_,_,_=>by unfold kL uL;exact⟨fb.id x,Up.id⟩
 |c::cs,h,hs,hg=>by
  unfold CT.de at h;unfold CT.eI at hg;have h1:=CT.AQ c h.1;have h2:=CT.xD cs h.2;unfold CT.cW at hs;unfold kL uL;have a:=KT x G c h.1 (by omega) hg.1;have b:=Z8 x G cs h.2 (by omega) hg.2;have ba:=pf c h.1 (by omega);have bb:=TB cs h.2 (by omega);exact⟨a.1.comp b.1 ba bb a.2,a.2.comp b.2 bb⟩
theorem Z3(x:TX)(G:Int):∀cs:List CT,CT.de cs->CT.cW cs<=1000->cs≠ []->CT.eI G cs->fb x (jh cs) (qq x cs)/\Up (jh cs)
 | [],_,_,hl,_=>absurd rfl hl
 | [c],h,hs,_,hg=>by
   unfold CT.de at h;unfold CT.eI at hg;simp only[CT.cW,Int.add_zero]at hs;unfold jh qq;exact KT x G c h.1 hs hg.1
 |c::d::cs,h,hs,hl,hg=>by
  have hc:CT.ok c/\CT.de (d::cs):=by unfold CT.de at h;exact h
  have IZ:CT.fy G c/\CT.eI G (d::cs):=by unfold CT.eI at hg;exact hg
  have h1:=CT.AQ c hc.1;have h2:=CT.xD (d::cs) hc.2;have yt:CT.sz c+CT.cW (d::cs)<=1000:=by unfold CT.cW at hs;exact hs
  have a:=KT x G c hc.1 (by omega) IZ.1;have b:=Z3 x G (d::cs) hc.2 (by omega) (by simp) IZ.2;have ba:=pf c hc.1 (by omega);have bb:=TA (d::cs) hc.2 (by omega) (by simp);unfold jh qq;exact⟨a.1.aw b.1 ba bb,a.2.aw bb⟩
end
def uR(ms:List MS):Prop:=∀(u:Nat) (m:MS),ms[u]? =some m->(0<=m.aT/\m.aT<=4)/\(m.aT=1->0<=m.next/\m.next<ms.length)/\(m.aT=2\/m.aT=3\/m.aT=4->0<=m.next/\m.next<u)/\(m.aT=4->0<=m.ch/\m.ch<u)
theorem AM{k s:Nat}(hk:V.aR[k]? =some s)(hm:M[s]? =some m):(sorted M V)[k]? =some {m with next:=V.num.getD m.next.toNat 0,ch:=V.num.getD m.ch.toNat 0}:=by
 unfold sorted;rw[List.getElem?_map,hk];simp[Ae,hm]
theorem afb(M:List MS)(V:VS):(sorted M V).length=V.aR.length:=by unfold sorted;simp
theorem yB{t:Nat}(h:V.num[t]? =some (u:Int)):V.num.getD t 0=(u:Int):=by rw[Ae,h];rfl
theorem an1(hV:jI M R V)(hS:Shut M R)
 (wW:∀t,(∃(s:Nat) (m:MS),s∈V.aR/\M[s]? =some m/\m.aT=1/\t=m.next.toNat)->∃u:Nat,V.num[t]? =some (u:Int)){s:Int}{r:gN}(h:bA M x s i gs r):
 ∀k:Nat,V.num[s.toNat]? =some (k:Int)->bA (sorted M V) x (k:Int) i gs r:=by
 have EK:∀{s k:Nat},V.num[s]? =some (k:Int)->V.aR[k]? =some s:=fun{s k} h=>by
  obtain⟨k',e,h'⟩:=hV.has s k h (by omega);have:k'=k:=by omega
  rw[<-this];exact h'
 have N4:∀{s k:Nat} {m:MS} {t:Int},V.aR[k]? =some s->M[s]? =some m->uU M s t->∃k':Nat,V.num[t.toNat]? =some (k':Int):=fun h1 h2 h3=>by
  obtain⟨k',_,h'⟩:=(hV.next _ _ _ h1 h2).2 _ h3;exact⟨k',h'⟩
 induction h with
 |done s m i gs h hk=>intro k hn;exact bA.done _ _ _ _ (AM (EK (by simpa using hn)) h) hk
 |iq s m i gs r h hk ht hn ih=>
  intro k nU;have ho:=EK (s:=s) (by simpa using nU);obtain⟨u,hu⟩:=wW m.next.toNat ⟨s,m,Cg ho,h,hk,rfl⟩
  exact bA.iq _ _ _ _ _ (AM ho h) hk ht (by show bA _ _ (V.num.getD m.next.toNat 0) _ _ _;rw[yB hu];exact ih u hu)
 |gE s m i gs h hk ht=>intro k hn;exact bA.gE _ _ _ _ (AM (EK (by simpa using hn)) h) hk ht
 |AP s m i gs r h hk he hn ih=>
  intro k nU;have ho:=EK (s:=s) (by simpa using nU);obtain⟨u,hu⟩:=N4 (t:=m.next) ho h ⟨s,m,rfl,h,Or.inl ⟨Or.inl hk,rfl⟩⟩;exact bA.AP _ _ _ _ _ (AM ho h) hk he (by show bA _ _ (V.num.getD m.next.toNat 0) _ _ _;rw[yB hu];exact ih u hu)
 |AO s m i gs h hk he=>intro k hn;exact bA.AO _ _ _ _ (AM (EK (by simpa using hn)) h) hk he
 |mark s m i gs r h hk hn ih=>
  intro k nU;have ho:=EK (s:=s) (by simpa using nU);obtain⟨u,hu⟩:=N4 (t:=m.next) ho h ⟨s,m,rfl,h,Or.inl ⟨Or.inr (Or.inl hk),rfl⟩⟩;exact bA.mark _ _ _ _ _ (AM ho h) hk (by show bA _ _ (V.num.getD m.next.toNat 0) _ _ _;rw[yB hu];exact ih u hu)
 |tU s m i gs v h hk hn ih=>
  intro k nU;have ho:=EK (s:=s) (by simpa using nU);obtain⟨u,hu⟩:=N4 (t:=m.next) ho h ⟨s,m,rfl,h,Or.inl ⟨Or.inr (Or.inr hk),rfl⟩⟩;exact bA.tU _ _ _ _ _ (AM ho h) hk (by show bA _ _ (V.num.getD m.next.toNat 0) _ _ _;rw[yB hu];exact ih u hu)
 |tT s m i gs r h hk hn vx ih uv=>
  intro k nU;have ho:=EK (s:=s) (by simpa using nU);obtain⟨u,hu⟩:=N4 (t:=m.next) ho h ⟨s,m,rfl,h,Or.inl ⟨Or.inr (Or.inr hk),rfl⟩⟩;obtain⟨u',MH⟩:=N4 (t:=m.ch) ho h ⟨s,m,rfl,h,Or.inr ⟨hk,rfl⟩⟩;exact bA.tT _ _ _ _ _ (AM ho h) hk (by show bA _ _ (V.num.getD m.next.toNat 0) _ _ _;rw[yB hu];exact ih u hu) (by show bA _ _ (V.num.getD m.ch.toNat 0) _ _ _;rw[yB MH];exact uv u' MH)
theorem anZ(hV:jI M R V)(hS:Shut M R)(bI:∀m∈M,0<=m.aT/\m.aT<=4)
 (wW:∀t,(∃(s:Nat) (m:MS),s∈V.aR/\M[s]? =some m/\m.aT=1/\t=m.next.toNat)->∃u:Nat,V.num[t]? =some (u:Int)):uR (sorted M V):=by
 intro k m' jN;have ar:k<V.aR.length:=by rw[<-afb M V];exact(Af.1 jN).1
 have ho:V.aR[k]? =some V.aR[k]:=Ab ar;obtain⟨m,hm,_⟩:=hS.cl _ (hV.QJ _ (Ay ar));rw[AM ho hm]at jN
 cases jN;have cS:=hV.next k _ m ho hm
 refine⟨bI m (Cg hm),fun h1=>?_,fun h1=>?_,fun h1=>?_⟩
 ·obtain⟨u,hu⟩:=wW m.next.toNat ⟨_,m,Ay ar,hm,h1,rfl⟩
  simp only;rw[yB hu,afb];obtain⟨k',e,h'⟩:=hV.has _ _ hu (by omega);have:=(Af.1 h').1;omega
 ·obtain⟨k',h2,h3⟩:=cS.2 m.next ⟨_,m,rfl,hm,Or.inl ⟨h1,rfl⟩⟩
  simp only;rw[yB h3];omega
 ·obtain⟨k',h2,h3⟩:=cS.2 m.ch ⟨_,m,rfl,hm,Or.inr ⟨h1,rfl⟩⟩;simp only;rw[yB h3];omega
theorem bA.aV{s:Int}{r:gN}(h:bA M x s i gs r)(hs:s=u)(hm:M[u]? =some m):
 (m.aT=0/\r=some (i,gs))\/
 (m.aT=1/\(decide (i<x.l.length)&&mM m.sp m.fo m.nt (x.dd i))=true/\bA M x m.next (i+1) gs r)\/
 (m.aT=1/\(decide (i<x.l.length)&&mM m.sp m.fo m.nt (x.dd i))=false/\r=none)\/
 (m.aT=2/\qF x m.kN i=true/\bA M x m.next i gs r)\/
 (m.aT=2/\qF x m.kN i=false/\r=none)\/
 (m.aT=3/\bA M x m.next i (gs.set m.slot.toNat (x.eX i)) r)\/
 (m.aT=4/\∃v,r=some v/\bA M x m.next i gs (some v))\/
 (m.aT=4/\bA M x m.next i gs none/\bA M x m.ch i gs r):=by
 have aux:∀(s':Nat) (m':MS),(s':Int)=u->M[s']? =some m'->m'=m:=fun s' m' e h'=>by
  have:s'=u:=by omega
  subst this;rw[h']at hm;exact Cr hm
 cases h with
 |done s' m' i gs h hk=>obtain rfl:=aux s' m' hs h;exact Or.inl ⟨hk,rfl⟩
 |iq s' m' i gs r h hk ht hn=>obtain rfl:=aux s' m' hs h;exact Or.inr (Or.inl ⟨hk,ht,hn⟩)
 |gE s' m' i gs h hk ht=>obtain rfl:=aux s' m' hs h;exact Or.inr (Or.inr (Or.inl ⟨hk,ht,rfl⟩))
 |AP s' m' i gs r h hk he hn=>obtain rfl:=aux s' m' hs h;exact Or.inr (Or.inr (Or.inr (Or.inl ⟨hk,he,hn⟩)))
 |AO s' m' i gs h hk he=>obtain rfl:=aux s' m' hs h;exact Or.inr (Or.inr (Or.inr (Or.inr (Or.inl ⟨hk,he,rfl⟩))))
 |mark s' m' i gs r h hk hn=>obtain rfl:=aux s' m' hs h;exact Or.inr (Or.inr (Or.inr (Or.inr (Or.inr (Or.inl ⟨hk,hn⟩)))))
 |tU s' m' i gs v h hk hn=>obtain rfl:=aux s' m' hs h;exact Or.inr (Or.inr (Or.inr (Or.inr (Or.inr (Or.inr (Or.inl ⟨hk,v,rfl,hn⟩))))))
 |tT s' m' i gs r h hk hn ho=>obtain rfl:=aux s' m' hs h;exact Or.inr (Or.inr (Or.inr (Or.inr (Or.inr (Or.inr (Or.inr ⟨hk,hn,ho⟩))))))
theorem bA.NQ{s:Int}{r:gN}(h:bA M x s i gs r):∀{dc:List Int} {r':gN},bA M x s i dc r'->r.map (·.1)=r'.map (·.1)/\(gs=dc->r=r'):=by
 induction h with
 |done s m i gs h hk=>
  intro dc r' h';rcases h'.aV rfl h with⟨a,e⟩|⟨a,_⟩|⟨a,_⟩|⟨a,_⟩|⟨a,_⟩|⟨a,_⟩|⟨a,_⟩|⟨a,_⟩<;>first|omega|skip
  subst e;exact⟨rfl,fun e=>by rw[e]⟩
 |iq s m i gs r h hk ht hn ih=>
  intro dc r' h';rcases h'.aV rfl h with⟨a,e⟩|⟨a,b,e⟩|⟨a,b,e⟩|⟨a,_⟩|⟨a,_⟩|⟨a,_⟩|⟨a,_⟩|⟨a,_⟩<;>first|omega|skip
  ·exact ih e
  ·rw[ht]at b;cases b
 |gE s m i gs h hk ht=>
  intro dc r' h';rcases h'.aV rfl h with⟨a,e⟩|⟨a,b,e⟩|⟨a,b,e⟩|⟨a,_⟩|⟨a,_⟩|⟨a,_⟩|⟨a,_⟩|⟨a,_⟩<;>first|omega|skip
  ·rw[ht]at b;cases b
  ·subst e;exact⟨rfl,fun _=>rfl⟩
 |AP s m i gs r h hk he hn ih=>
  intro dc r' h';rcases h'.aV rfl h with⟨a,e⟩|⟨a,b,e⟩|⟨a,b,e⟩|⟨a,b,e⟩|⟨a,b,e⟩|⟨a,_⟩|⟨a,_⟩|⟨a,_⟩<;>first|omega|skip
  ·exact ih e
  ·rw[he]at b;cases b
 |AO s m i gs h hk he=>
  intro dc r' h';rcases h'.aV rfl h with⟨a,e⟩|⟨a,b,e⟩|⟨a,b,e⟩|⟨a,b,e⟩|⟨a,b,e⟩|⟨a,_⟩|⟨a,_⟩|⟨a,_⟩<;>first|omega|skip
  ·rw[he]at b;cases b
  ·subst e;exact⟨rfl,fun _=>rfl⟩
 |mark s m i gs r h hk hn ih=>
  intro dc r' h';rcases h'.aV rfl h with⟨a,e⟩|⟨a,b,e⟩|⟨a,b,e⟩|⟨a,b,e⟩|⟨a,b,e⟩|⟨a,b⟩|⟨a,_⟩|⟨a,_⟩<;>first|omega|skip
  exact⟨(ih b).1,fun e=>(ih b).2 (by rw[e])⟩
 |tU s m i gs v h hk hn ih=>
  intro dc r' h';rcases h'.aV rfl h with⟨a,e⟩|⟨a,b,e⟩|⟨a,b,e⟩|⟨a,b,e⟩|⟨a,b,e⟩|⟨a,b⟩|⟨a,v',e,b⟩|⟨a,b,c⟩<;>first|omega|skip
  ·subst e;exact ih b
  ·have:=(ih b).1;simp at this
 |tT s m i gs r h hk hn ho ih uv=>
  intro dc r' h';rcases h'.aV rfl h with⟨a,e⟩|⟨a,b,e⟩|⟨a,b,e⟩|⟨a,b,e⟩|⟨a,b,e⟩|⟨a,b⟩|⟨a,v',e,b⟩|⟨a,b,c⟩<;>first|omega|skip
  ·have:=(ih b).1;simp at this
  ·exact uv c
theorem uR.jf(hg:uR ms)(x:TX):∀(d i:Nat),x.l.length-i<=d->i<=x.l.length->∀(n u:Nat),u<=n->u<ms.length->∀gs,∃r,bA ms x (u:Int) i gs r:=by
 intro d;induction d with
 |zero=>
  intro i hd hi n;induction n with
  |zero=>
   intro u hn hu gs;obtain⟨m,hm⟩:∃m,ms[u]? =some m:=⟨_,Ab hu⟩
   obtain⟨⟨k0,k4⟩,g1,g2,g3⟩:=hg u m hm;by_cases e0:m.aT=0
   ·exact⟨_,bA.done _ _ _ _ hm e0⟩
   ·by_cases e1:m.aT=1
    ·exact⟨_,bA.gE _ _ _ _ hm e1 (by simp;omega)⟩
    ·have:=g2 (by omega);omega
  |succ n ih=>
   intro u hn hu gs;obtain⟨m,hm⟩:∃m,ms[u]? =some m:=⟨_,Ab hu⟩
   obtain⟨⟨k0,k4⟩,g1,g2,g3⟩:=hg u m hm
   have to0:∀(t:Int),0<=t->t<u->∀gs,∃r,bA ms x t i gs r:=fun t h1 h2 gs=>by
    obtain⟨t',rfl⟩:=C2 h1;exact ih t' (by omega) (by omega) gs
   by_cases e0:m.aT=0
   ·exact⟨_,bA.done _ _ _ _ hm e0⟩
   ·by_cases e1:m.aT=1
    ·exact⟨_,bA.gE _ _ _ _ hm e1 (by simp;omega)⟩
    ·have h2:=g2 (by omega);by_cases e2:m.aT=2
     ·by_cases he:qF x m.kN i=true
      ·obtain⟨r,hr⟩:=to0 _ h2.1 h2.2 gs;exact⟨r,bA.AP _ _ _ _ _ hm e2 he hr⟩
      ·exact⟨_,bA.AO _ _ _ _ hm e2 (Ck.2 he)⟩
     ·by_cases e3:m.aT=3
      ·obtain⟨r,hr⟩:=to0 _ h2.1 h2.2 (gs.set m.slot.toNat (x.eX i));exact⟨r,bA.mark _ _ _ _ _ hm e3 hr⟩
      ·have e4:m.aT=4:=(by omega);obtain⟨r,hr⟩:=to0 _ h2.1 h2.2 gs;obtain⟨r',mB⟩:=to0 _ (g3 e4).1 (g3 e4).2 gs
       cases r with
       |some v=>exact⟨_,bA.tU _ _ _ _ _ hm e4 hr⟩
       |none=>exact⟨_,bA.tT _ _ _ _ _ hm e4 hr mB⟩
 |succ d IH=>
  intro i hd hi n;induction n with
  |zero=>
   intro u hn hu gs;obtain⟨m,hm⟩:∃m,ms[u]? =some m:=⟨_,Ab hu⟩
   obtain⟨⟨k0,k4⟩,g1,g2,g3⟩:=hg u m hm;by_cases e0:m.aT=0
   ·exact⟨_,bA.done _ _ _ _ hm e0⟩
   ·by_cases e1:m.aT=1
    ·by_cases ht:(decide (i<x.l.length)&&mM m.sp m.fo m.nt (x.dd i))=true
     ·have ar:i<x.l.length:=by simp at ht;exact ht.1
      have h1:=g1 e1;obtain⟨t,MG⟩:=C2 h1.1;obtain⟨r,hr⟩:=IH (i+1) (by omega) (by omega) t t (Aa _) (by omega) gs;exact⟨r,bA.iq _ _ _ _ _ hm e1 ht (by rw[MG];exact hr)⟩
     ·exact⟨_,bA.gE _ _ _ _ hm e1 (Ck.2 ht)⟩
    ·have:=g2 (by omega);omega
  |succ n ih=>
   intro u hn hu gs;obtain⟨m,hm⟩:∃m,ms[u]? =some m:=⟨_,Ab hu⟩
   obtain⟨⟨k0,k4⟩,g1,g2,g3⟩:=hg u m hm
   have to0:∀(t:Int),0<=t->t<u->∀gs,∃r,bA ms x t i gs r:=fun t h1 h2 gs=>by
    obtain⟨t',rfl⟩:=C2 h1;exact ih t' (by omega) (by omega) gs
   by_cases e0:m.aT=0
   ·exact⟨_,bA.done _ _ _ _ hm e0⟩
   ·by_cases e1:m.aT=1
    ·by_cases ht:(decide (i<x.l.length)&&mM m.sp m.fo m.nt (x.dd i))=true
     ·have ar:i<x.l.length:=by simp at ht;exact ht.1
      have h1:=g1 e1;obtain⟨t,MG⟩:=C2 h1.1;obtain⟨r,hr⟩:=IH (i+1) (by omega) (by omega) t t (Aa _) (by omega) gs;exact⟨r,bA.iq _ _ _ _ _ hm e1 ht (by rw[MG];exact hr)⟩
     ·exact⟨_,bA.gE _ _ _ _ hm e1 (Ck.2 ht)⟩
    ·have h2:=g2 (by omega);by_cases e2:m.aT=2
     ·by_cases he:qF x m.kN i=true
      ·obtain⟨r,hr⟩:=to0 _ h2.1 h2.2 gs;exact⟨r,bA.AP _ _ _ _ _ hm e2 he hr⟩
      ·exact⟨_,bA.AO _ _ _ _ hm e2 (Ck.2 he)⟩
     ·by_cases e3:m.aT=3
      ·obtain⟨r,hr⟩:=to0 _ h2.1 h2.2 (gs.set m.slot.toNat (x.eX i));exact⟨r,bA.mark _ _ _ _ _ hm e3 hr⟩
      ·have e4:m.aT=4:=(by omega);obtain⟨r,hr⟩:=to0 _ h2.1 h2.2 gs;obtain⟨r',mB⟩:=to0 _ (g3 e4).1 (g3 e4).2 gs
       cases r with
       |some v=>exact⟨_,bA.tU _ _ _ _ _ hm e4 hr⟩
       |none=>exact⟨_,bA.tT _ _ _ _ _ hm e4 hr mB⟩
def afT(ms:List MS)(x:TX)(u:Int)(i:Nat):Prop:=∃gs v,bA ms x u i gs (some v)
noncomputable def off(ms:List MS)(x:TX)(u:Int)(i:Nat):Bool:=@decide (afT ms x u i) (Classical.propDecidable _)
theorem Rv{u:Int}{v:Nat×List Int}(h:bA ms x u i gs (some v)):off ms x u i=true:=by
 unfold off;exact @Ds _ (Classical.propDecidable _) ⟨gs,v,h⟩
theorem Xa{u:Int}(h:bA ms x u i gs none):off ms x u i=false:=by
 unfold off;refine @A9 _ (Classical.propDecidable _) fun⟨dc,v,h'⟩=>?_
 have:=(h.NQ h').1;simp at this
theorem uF{u:Int}{r:gN}(h:bA ms x u i gs r):off ms x u i=r.isSome:=by
 cases r with
 |none=>exact Xa h
 |some v=>exact Rv h
theorem uR.run(hg:uR ms)(x:TX)(hi:i<=x.l.length){t:Int}(h0:0<=t)(h1:t<ms.length)(gs:List Int):∃r,bA ms x t i gs r:=by
 obtain⟨u,rfl⟩:=C2 h0;exact hg.jf x _ i (Aa _) hi u u (Aa _) (by omega) gs
theorem alx(hg:uR ms)(x:TX)(hi:i<=x.l.length)(hm:ms[u]? =some m):
 (m.aT=0->off ms x u i=true)/\(m.aT=1->off ms x u i=((decide (i<x.l.length)&&mM m.sp m.fo m.nt (x.dd i))&&off ms x m.next (i+1)))/\
 (m.aT=2->off ms x u i=(off ms x m.next i&&qF x m.kN i))/\(m.aT=3->off ms x u i=off ms x m.next i)/\(m.aT=4->off ms x u i=(off ms x m.next i||off ms x m.ch i)):=by
 have hu:=(Af.1 hm).1;obtain⟨⟨k0,k4⟩,g1,g2,g3⟩:=hg u m hm;refine⟨fun e=>Rv (bA.done _ _ _ [] hm e),fun e=>?_,fun e=>?_,fun e=>?_,fun e=>?_⟩
 ·by_cases ht:(decide (i<x.l.length)&&mM m.sp m.fo m.nt (x.dd i))=true
  ·have ar:i<x.l.length:=by simp at ht;exact ht.1
   obtain⟨r,hr⟩:=hg.run x (i:=i+1) ar (g1 e).1 (g1 e).2 [];rw[uF (bA.iq _ _ _ _ _ hm e ht hr),uF hr,ht,D8]
  ·have ht:=Ck.2 ht;rw[uF (bA.gE _ _ _ [] hm e ht),ht];rfl
 ·have h2:=g2 (by omega);by_cases he:qF x m.kN i=true
  ·obtain⟨r,hr⟩:=hg.run x hi h2.1 (by omega) [];rw[uF (bA.AP _ _ _ _ _ hm e he hr),uF hr,he,E4]
  ·have he:=Ck.2 he;rw[uF (bA.AO _ _ _ [] hm e he),he,Bool.and_false];rfl
 ·have h2:=g2 (by omega);obtain⟨r,hr⟩:=hg.run x hi h2.1 (by omega) (([]:List Int).set m.slot.toNat (x.eX i));rw[uF (bA.mark _ _ _ _ _ hm e hr),uF hr]
 ·have h2:=g2 (by omega);have h3:=g3 e;obtain⟨r,hr⟩:=hg.run x hi h2.1 (by omega) [];obtain⟨r',mB⟩:=hg.run x hi h3.1 (by omega) []
  cases r with
  |some v=>rw[uF (bA.tU _ _ _ _ _ hm e hr),uF hr];rfl
  |none=>rw[uF (bA.tT _ _ _ _ _ hm e hr mB),uF hr,uF mB];rfl
open Go.RowKit
theorem ahR(n b0 b1 b2 b3:Nat)(hn:1<=n):1<=(Lib.decodeN n b0 b1 b2 b3).2/\(Lib.decodeN n b0 b1 b2 b3).2<=n/\(Lib.decodeN n b0 b1 b2 b3).2<=4/\
 (1<(Lib.decodeN n b0 b1 b2 b3).2->b0/64≠2/\128<=b0/\b1/64=2/\(2<(Lib.decodeN n b0 b1 b2 b3).2->b2/64=2)/\(3<(Lib.decodeN n b0 b1 b2 b3).2->b3/64=2))/\
 (b0<128->Lib.decodeN n b0 b1 b2 b3=(b0,1))/\(128<=b0->(Lib.decodeN n b0 b1 b2 b3).2=1->(Lib.decodeN n b0 b1 b2 b3).1=65533):=by
 unfold Lib.decodeN;by_cases h0:b0<128
 ·rw[if_pos h0];exact⟨by simp,by simp;omega,by simp,fun h=>by simp at h,fun _=>rfl,fun h=>by omega⟩
 ·rw[if_neg h0];repeat' split
  all_goals(refine⟨by simp,by simp;omega,by simp,fun h=>?_,fun h=>absurd h h0,fun _ h=>?_⟩<;>first|(simp at h;done)|rfl|(simp only[]at h⊢;omega))
theorem ahQ(n m b0 b1 b2 b3 c1 c2 c3:Nat)(hm:1<=m)(iy:m<=n)(h1:1<m->c1=b1)(h2:2<m->c2=b2)(h3:3<m->c3=b3)(hw:(Lib.decodeN n b0 b1 b2 b3).2<=m):Lib.decodeN m b0 c1 c2 c3=Lib.decodeN n b0 b1 b2 b3:=by
 unfold Lib.decodeN at*;by_cases h0:b0<128
 ·rw[if_pos h0,if_pos h0]
 ·rw[if_neg h0]at hw⊢;rw[if_neg h0];by_cases k1:1<m
  ·have e1:=h1 k1;subst e1;by_cases k2:2<m
   ·have e2:=h2 k2;subst e2;by_cases k3:3<m
    ·have e3:=h3 k3;subst e3;have a1:1<n:=(by omega);have a2:2<n:=(by omega);have a3:3<n:=(by omega);simp only[k1,k2,k3,a1,a2,a3,true_and]
    ·have a1:1<n:=(by omega);have a2:2<n:=(by omega);simp only[k1,k2,k3,a1,a2,true_and,false_and,and_false,if_false]at hw⊢;repeat' split
     all_goals first|rfl|(exfalso;simp_all;done)|(exfalso;simp_all;omega)
   ·have a1:1<n:=(by omega);simp only[k1,k2,a1,show¬3<m by omega,true_and,false_and,and_false,if_false]at hw⊢;repeat' split
    all_goals first|rfl|(exfalso;simp_all;done)|(exfalso;simp_all;omega)
  ·simp only[k1,show¬2<m by omega,show¬3<m by omega,false_and,and_false,if_false]at hw⊢;repeat' split
   all_goals first|rfl|(exfalso;simp_all;done)|(exfalso;simp_all;omega)
theorem CG(s:ByteArray)(p:Nat)(h:p<s.size):1<=(Utf8.decode s p).2/\p+(Utf8.decode s p).2<=s.size/\(Utf8.decode s p).2<=4/\
 (1<(Utf8.decode s p).2->(s.get! p).toNat/64≠2/\128<=(s.get! p).toNat/\∀k,1<=k->k<(Utf8.decode s p).2->(s.get! (p+k)).toNat/64=2)/\
 ((s.get! p).toNat<128->Utf8.decode s p=((s.get! p).toNat,1))/\(128<=(s.get! p).toNat->(Utf8.decode s p).2=1->(Utf8.decode s p).1=65533):=by
 rw[Lib.decode_at];obtain⟨a1,a2,a3,a4,a5,a6⟩:=ahR (s.size-p) (s.get! p).toNat (s.get! (p+1)).toNat (s.get! (p+2)).toNat (s.get! (p+3)).toNat (by omega);refine⟨a1,by omega,a3,fun h1=>?_,a5,a6⟩;obtain⟨b1,b2,b3,b4,b5⟩:=a4 h1;refine⟨b1,b2,fun k k1 k2=>?_⟩;have:k=1\/k=2\/k=3:=by omega
 rcases this with rfl|rfl|rfl
 ·exact b3
 ·exact b4 k2
 ·exact b5 k2
theorem Lr(s:ByteArray)(a b k:Nat)(hb:b<=s.size)(hk:a+k<b):(s.extract a b).get! k=s.get! (a+k):=by
 rw[<-Lib.getD_get!,<-Lib.getD_get!,Lib.extract_data];simp only[Ae];congr 1;rw[Al (by omega),Du]
theorem extract_size(s:ByteArray)(a b:Nat)(hb:b<=s.size):(s.extract a b).size=b-a:=by
 rw[Ef,Lib.extract_data,List.length_take,List.length_drop,<-Ef];omega
theorem Pg(s:ByteArray)(a b p:Nat)(hb:b<=s.size)(hp:a+p<b)(hw:a+p+(Utf8.decode s (a+p)).2<=b):Utf8.decode (s.extract a b) p=Utf8.decode s (a+p):=by
 rw[Lib.decode_at]at hw⊢;rw[Lib.decode_at,extract_size s a b hb,Lr s a b p hb hp];refine ahQ _ _ _ _ _ _ _ _ _ (by omega) (by omega) (fun h=>?_) (fun h=>?_) (fun h=>?_) (by omega)
 ·rw[Lr s a b (p+1) hb (by omega)];rfl
 ·rw[Lr s a b (p+2) hb (by omega)];rfl
 ·rw[Lr s a b (p+3) hb (by omega)];rfl
theorem T9(s:ByteArray)(p:Nat)(h:p<s.size):Lib.decodeGo (s.extract p s.size)=Utf8.decode s p:=by
 have hs:=extract_size s p s.size (Aa _);have hw:=CG s p h;unfold Lib.decodeGo;rw[if_neg (by omega),Pg s p s.size 0 (Aa _) (by omega) (by rw[E3];omega),E3]
structure Yw(s:ByteArray)(a:Nat)(l:List (Nat×Int)):Prop where
 first:∀h:0<l.length,l[0].1=a
 none:l.length=0->a=s.size
 lt:∀i,(h:i<l.length)->l[i].1<s.size
 dd:∀i,(h:i<l.length)->l[i].2=((Utf8.decode s l[i].1).1:Int)
 next:∀i,(h:i+1<l.length)->l[i+1].1=l[i].1+(Utf8.decode s l[i].1).2
 last:∀i,(h:i+1=l.length)->s.size=l[i].1+(Utf8.decode s l[i].1).2
theorem aeP(s:ByteArray):∀(m pos:Nat),s.size-pos<=m->pos<=s.size->Yw s pos (dK s m pos)
 |0,pos,h,hp=>⟨fun h=>by simp[dK]at h,fun _=>by omega,fun i h=>by simp[dK]at h,fun i h=>by simp[dK]at h,fun i h=>by simp[dK]at h,fun i h=>by simp[dK]at h⟩
 |m+1,pos,h,hp=>by
  unfold dK;by_cases ar:pos<s.size
  ·rw[if_pos ar];have hw:=CG s pos ar;have ih:=aeP s m (pos+(Utf8.decode s pos).2) (by omega) (by omega);refine⟨fun _=>rfl,fun h=>by simp at h,fun i hi=>?_,fun i hi=>?_,fun i hi=>?_,fun i hi=>?_⟩
   ·cases i with
    |zero=>exact ar
    |succ i=>exact ih.lt i (by simpa using hi)
   ·cases i with
    |zero=>rfl
    |succ i=>exact ih.dd i (by simpa using hi)
   ·cases i with
    |zero=>exact ih.first (by simpa using hi)
    |succ i=>exact ih.next i (by simpa using hi)
   ·cases i with
    |zero=>exact(ih.none (by simpa using hi.symm)).symm
    |succ i=>exact ih.last i (by simpa using hi)
  ·rw[if_neg ar];exact⟨fun h=>by simp at h,fun _=>by omega,fun i h=>by simp at h,fun i h=>by simp at h,fun i h=>by simp at h,fun i h=>by simp at h⟩
def aW(s:ByteArray):List (Nat×Int):=dK s s.size 0
def cG(s:ByteArray):TX:=⟨aW s,s.size⟩
def bd(s:ByteArray)(i:Nat):Nat:=((aW s)[i]?.map (·.1)).getD s.size
theorem JT(s:ByteArray):Yw s 0 (aW s):=aeP s s.size 0 (by omega) (Aw _)
theorem KV(h:i<(aW s).length):bd s i=(aW s)[i].1:=by unfold bd;rw[Ab h];rfl
theorem sI(h:(aW s).length<=i):bd s i=s.size:=by unfold bd;rw[Bd h];rfl
theorem Io(s:ByteArray):bd s 0=0:=by
 by_cases h:0<(aW s).length
 ·rw[KV h];exact(JT s).first h
 ·rw[sI (by omega)];exact((JT s).none (by omega)).symm
theorem zd(h:i<(aW s).length):bd s i<s.size:=by rw[KV h];exact(JT s).lt i h
theorem jK(s:ByteArray)(i:Nat):bd s i<=s.size:=by
 by_cases h:i<(aW s).length
 ·exact Nat.le_of_lt (zd h)
 ·rw[sI (by omega)];exact Aa _
theorem CC(h:i<(aW s).length):bd s (i+1)=bd s i+(Utf8.decode s (bd s i)).2:=by
 rw[KV h];by_cases h2:i+1<(aW s).length
 ·rw[KV h2];exact(JT s).next i h2
 ·rw[sI (by omega)];exact(JT s).last i (by omega)
theorem xR(h:i<(aW s).length):bd s i<bd s (i+1)/\bd s (i+1)<=bd s i+4:=by
 have:=CG s _ (zd h);rw[CC h];omega
theorem rD(s:ByteArray)(h:i<=j):bd s i<=bd s j:=by
 induction j with
 |zero=>have:i=0:=by omega
        subst this;exact Aa _
 |succ j ih=>
  by_cases e:i=j+1
  ·subst e;exact Aa _
  ·have h1:=ih (by omega);by_cases hj:j<(aW s).length
   ·have:=xR hj;omega
   ·rw[sI (i:=j+1) (by omega)];exact jK s i
theorem KW(h:i<j)(hj:i<(aW s).length):bd s i<bd s j:=by
 have h1:=xR hj;have h2:=rD s (show i+1<=j by omega);omega
theorem O8(hi:i<=(aW s).length)(hj:j<=(aW s).length)(h:bd s i=bd s j):i=j:=by
 by_cases h1:i<j
 ·have:=KW (s:=s) h1 (by omega);omega
 ·by_cases h2:j<i
  ·have:=KW (s:=s) h2 (by omega);omega
  ·omega
theorem Ip(s:ByteArray)(i:Nat):(cG s).eX i=(bd s i:Int):=by
 unfold TX.eX bd cG;simp only[List.getElem?_map]
 cases(aW s)[i]? <;>rfl
theorem XN(h:i<(aW s).length):(cG s).dd i=((Utf8.decode s (bd s i)).1:Int):=by
 unfold TX.dd cG;simp only[List.getElem?_map,Ab h,Es,D2];rw[KV h];exact(JT s).dd i h
theorem RW(s:ByteArray):(aW s).length<=s.size:=by
 have:∀i,i<=(aW s).length->i<=bd s i:=by
  intro i;induction i with
  |zero=>intro _;exact Aw _
  |succ i ih=>
   intro h;have:=xR (s:=s) (i:=i) (by omega);have:=ih (by omega);omega
 have h:=this _ (Aa _);rw[sI (Aa _)]at h;exact h
theorem agz(s:ByteArray)(k:Nat)(hk:k<s.size):∃i,i<(aW s).length/\bd s i<=k/\k<bd s (i+1):=by
 have:∀d i,(aW s).length-i<=d->i<=(aW s).length->bd s i<=k->∃i,i<(aW s).length/\bd s i<=k/\k<bd s (i+1):=by
  intro d;induction d with
  |zero=>intro i h1 h2 h3;rw[sI (by omega)]at h3;omega
  |succ d ih=>
   intro i h1 h2 h3;by_cases hi:i<(aW s).length
   ·by_cases aG:k<bd s (i+1)
    ·exact⟨i,hi,h3,aG⟩
    ·exact ih (i+1) (by omega) (by omega) (by omega)
   ·rw[sI (by omega)]at h3;omega
 exact this _ 0 (Aa _) (Aw _) (by rw[Io];omega)
theorem agA(s:ByteArray)(k:Nat)(hk:k<s.size)(h:(s.get! k).toNat/64≠2):∃i,i<(aW s).length/\bd s i=k:=by
 obtain⟨i,h1,h2,h3⟩:=agz s k hk;refine⟨i,h1,?_⟩;apply Df;intro aF;have hw:=CG s _ (zd h1);rw[CC h1]at h3;have:=(hw.2.2.2.1 (by omega)).2.2 (k-bd s i) (by omega) (by omega);rw[show bd s i+(k-bd s i)=k by omega]at this;exact h this
theorem akB(h:i<(aW s).length):((Lib.decodeLastL (s.extract 0 (bd s (i+1))).data.toList).1:Int)=(cG s).dd i:=by
 have hq:=zd h;have cS:=xR h;have hp:=jK s (i+1);have hw:=CG s _ hq;have ic:=CC h;have bm:(s.extract 0 (bd s (i+1))).size=bd s (i+1):=by rw[extract_size s 0 _ hp];rfl
 have hg:∀k,k<bd s (i+1)->(s.extract 0 (bd s (i+1))).get! k=s.get! k:=fun k hk=>by rw[Lr s 0 _ k hp (by omega),Co]
 rw[XN h];by_cases ha:(s.get! (bd s (i+1)-1)).toNat<128
 ·
  have mC:(Utf8.decode s (bd s i)).2=1:=by
   apply Df
   intro aF;have h1:=(hw.2.2.2.1 (by omega)).2.2 ((Utf8.decode s (bd s i)).2-1) (by omega) (by omega);rw[show bd s i+((Utf8.decode s (bd s i)).2-1)=bd s (i+1)-1 by omega]at h1;omega
  have e:bd s (i+1)-1=bd s i:=by omega
  rw[e]at ha;rw[hw.2.2.2.2.1 ha];unfold Lib.decodeLastL
  have aF:(s.extract 0 (bd s (i+1))).data.toList≠ []:=fun h0=>by
   have:=Ef (s.extract 0 (bd s (i+1)));rw[bm,h0,A8]at this;omega
  rw[if_neg aF,<-Ef,bm,Lib.getD_get!,hg (bd s (i+1)-1) (by omega),e,if_pos ha]
 ·rw[Lib.decodeLastL_eq _ (by omega) (by rw[bm,hg _ (by omega)];omega)];generalize ME:Lib.lastStart (s.extract 0 (bd s (i+1))).data.toList=st;unfold Lib.lastOf;rw[bm];have hl:(s.extract 0 (bd s (i+1))).data.toList.length=bd s (i+1):=by rw[<-Ef,bm]
  have aF:(s.extract 0 (bd s (i+1))).data.toList≠ []:=fun h0=>by rw[h0]at hl;simp at hl;omega
  have ar:=Lib.lastStart_lt _ aF;rw[ME,hl]at ar
  have qJ:∀k,1<=k->k<=bd s (i+1)->Lib.runeStartB ((s.extract 0 (bd s (i+1))).data.toList.getD (bd s (i+1)-k) 0)=decide ((s.get! (bd s (i+1)-k)).toNat/64≠2):=fun k k1 k2=>by
   rw[Lib.getD_get!,hg _ (by omega)];unfold Lib.runeStartB;rw[Av];simp
  have hD:Lib.decodeGo ((s.extract 0 (bd s (i+1))).extract st (bd s (i+1)))=Utf8.decode (s.extract 0 (bd s (i+1))) st:=by
   have:=T9 (s.extract 0 (bd s (i+1))) st (by omega);rw[bm]at this;exact this
  rw[hD];by_cases Qx:(Utf8.decode s (bd s i)).2=1
  ·
   have e:bd s (i+1)-1=bd s i:=(by omega);have aiZ:(Utf8.decode s (bd s i)).1=65533:=hw.2.2.2.2.2 (by rw[<-e];omega) Qx;rw[aiZ];split
   ·rename_i dX
    have hwT:=CG (s.extract 0 (bd s (i+1))) st (by omega);by_cases hb:(Utf8.decode (s.extract 0 (bd s (i+1))) st).2=1
    ·have est:st=bd s i:=(by omega);have:=hwT.2.2.2.2.2 (by rw[est,hg _ (by omega),<-e];omega) hb;rw[this]
    ·exfalso
     have te:=(hwT.2.2.2.1 (by omega)).1;rw[hg _ (by omega)]at te;obtain⟨j,j1,j2⟩:=agA s st (by omega) te
     have L8:Utf8.decode (s.extract 0 (bd s (i+1))) st=Utf8.decode s st:=by
      have wj:=CG s _ (zd j1)
      have hle:bd s (j+1)<=bd s (i+1):=by
       have:j<i+1:=by
        apply Df
        intro hx;have:=rD s (show i+1<=j by omega);omega
       exact rD s (by omega)
      rw[CC j1,j2]at hle;have:=Pg s 0 (bd s (i+1)) st hp (by omega) (by rw[Co];omega);rw[Co]at this;exact this
     rw[L8]at dX hb;have e2:bd s (j+1)=bd s (i+1):=by rw[CC j1,j2];exact dX
     have:=O8 (by omega) (by omega) e2;have:j=i:=(by omega);subst this;omega
   ·rfl
  ·
   have abM:=hw.2.2.2.1 (by omega)
   have ajL:st=bd s i:=by
    have hk:(Utf8.decode s (bd s i)).2=2\/(Utf8.decode s (bd s i)).2=3\/(Utf8.decode s (bd s i)).2=4:=(by omega);rw[<-ME]
    have acj:∀k,bd s i+k<bd s (i+1)->Lib.runeStartB ((s.extract 0 (bd s (i+1))).data.toList.getD (bd s i+k) 0)=decide ((s.get! (bd s i+k)).toNat/64≠2):=fun k hk=>by
     have:=qJ (bd s (i+1)-(bd s i+k)) (by omega) (by omega);rw[show bd s (i+1)-(bd s (i+1)-(bd s i+k))=bd s i+k by omega]at this;exact this
    have s0:Lib.runeStartB ((s.extract 0 (bd s (i+1))).data.toList.getD (bd s i) 0)=true:=by
     have:=acj 0 (by omega);simp only[E3]at this;rw[this];exact Ds abM.1
    have sk:∀k,1<=k->k<(Utf8.decode s (bd s i)).2->Lib.runeStartB ((s.extract 0 (bd s (i+1))).data.toList.getD (bd s i+k) 0)=false:=fun k k1 k2=>by
     rw[acj k (by omega)];exact A9 fun hx=>hx (abM.2.2 k k1 k2)
    rcases hk with hk|hk|hk
    ·exact Lib.lastStart_at2 _ _ (by omega) s0
    ·exact Lib.lastStart_at3 _ _ (by omega) (sk 1 (by omega) (by omega)) s0
    ·exact Lib.lastStart_at4 _ _ (by omega) (sk 2 (by omega) (by omega)) (sk 1 (by omega) (by omega)) s0
   have L8:Utf8.decode (s.extract 0 (bd s (i+1))) st=Utf8.decode s (bd s i):=by
    have:=Pg s 0 (bd s (i+1)) (bd s i) hp (by omega) (by rw[Co];omega);rw[Co]at this;rw[ajL];exact this
   rw[L8,if_pos (by omega)]
def xW:aD:=fun i gs=>some (i,gs)
def AS(C:CT)(G:Nat)(x:TX)(i:Nat):gN:=(eH x C (xW,xW)).2 i (List.replicate (2*G) (-1))
structure Ev where
 a:Nat
 b:Nat
 gs:List Int
def lu(T:Nat->gN)(n:Nat):Nat->Nat->Option Nat->List Ev
 |0,_,_=>[]
 |k+1,i,told=>if n<i then []else match T i with
  |none=>lu T n k (i+1) told
  |some v=>if i=v.1 then(if told=some v.1 then lu T n k (v.1+1) told else⟨i,v.1,v.2⟩::lu T n k (v.1+1) (some v.1))else⟨i,v.1,v.2⟩::lu T n k v.1 (some v.1)
def BC(T:Nat->gN)(n:Nat):Prop:=∀i j gs,i<=n->T i=some (j,gs)->i<=j/\j<=n
theorem Ug{T:Nat->gN}(hT:BC T n):∀(k l i:Nat) (told:Option Nat),n+1-i<=k->k<=l->lu T n l i told=lu T n k i told:=by
 intro k;induction k with
 |zero=>
  intro l i told h1 h2
  cases l with
  |zero=>rfl
  |succ l=>unfold lu;rw[if_pos (by omega)]
 |succ k ih=>
  intro l i told h1 h2;obtain⟨l,rfl⟩:∃l',l=l'+1:=⟨l-1,by omega⟩
  unfold lu;by_cases hn:n<i
  ·rw[if_pos hn,if_pos hn]
  ·rw[if_neg hn,if_neg hn]
   cases e:T i with
   |none=>exact ih l (i+1) told (by omega) (by omega)
   |some v=>
    obtain⟨j,gs⟩:=v;have hf:=hT i j gs (by omega) e;simp only;by_cases mx:i=j
    ·rw[if_pos mx,if_pos mx,ih l (j+1) told (by omega) (by omega),ih l (j+1) (some j) (by omega) (by omega)]
    ·rw[if_neg mx,if_neg mx,ih l j (some j) (by omega) (by omega)]
def gT(T:Nat->gN)(n i:Nat)(told:Option Nat):List Ev:=lu T n (n+1-i) i told
theorem Uf{T:Nat->gN}(h:n<i):gT T n i told=[]:=by
 unfold gT;rw[show n+1-i=0 by omega];rfl
theorem aa4{T:Nat->gN}(h:i<=n)(e:T i=none):gT T n i told=gT T n (i+1) told:=by
 unfold gT;rw[show n+1-i=(n+1-(i+1))+1 by omega];conv=>lhs;unfold lu
 rw[if_neg (by omega),e]
theorem aa5{T:Nat->gN}(hT:BC T n)(h:i<=n)(e:T i=some (j,gs)):
 gT T n i told=if i=j then(if told=some j then gT T n (j+1) told else⟨i,j,gs⟩::gT T n (j+1) (some j))else⟨i,j,gs⟩::gT T n j (some j):=by
 have hf:=hT i j gs h e;unfold gT;rw[show n+1-i=(n-i)+1 by omega];conv=>lhs;unfold lu
 rw[if_neg (by omega),e];simp only;by_cases mx:i=j
 ·rw[if_pos mx,if_pos mx,Ug hT (n+1-(j+1)) (n-i) (j+1) told (by omega) (by omega),Ug hT (n+1-(j+1)) (n-i) (j+1) (some j) (by omega) (by omega)]
 ·rw[if_neg mx,if_neg mx,Ug hT (n+1-j) (n-i) j (some j) (by omega) (by omega)]
def yQ(T:Nat->gN)(n:Nat):Nat->Option Nat->List Ev->Prop
 |_,_,[]=>True
 |lo,told,e::es=>lo<=e.a/\e.a<=e.b/\e.b<=n/\told≠some e.b/\T e.a=some (e.b,e.gs)/\yQ T n e.b (some e.b) es
theorem yQ.low{T:Nat->gN}{lo Ng:Nat}:∀{l:List Ev},yQ T n lo told l->Ng<=lo->yQ T n Ng told l
 | [],h,_=>trivial
 |e::es,h,hl=>⟨Bf hl h.1,h.2⟩
theorem aia{T:Nat->gN}(hT:BC T n):∀(k i:Nat) (told:Option Nat),(∀p,told=some p->p<=i)->yQ T n i told (lu T n k i told):=by
 intro k;induction k with
 |zero=>intro i told _;trivial
 |succ k ih=>
  intro i told ht;unfold lu;by_cases hn:n<i
  ·rw[if_pos hn];trivial
  ·rw[if_neg hn]
   cases e:T i with
   |none=>exact(ih (i+1) told (fun p hp=>by have:=ht p hp;omega)).low (by omega)
   |some v=>
    obtain⟨j,gs⟩:=v;have hf:=hT i j gs (by omega) e;simp only;by_cases mx:i=j
    ·subst mx;rw[if_pos rfl];by_cases fP:told=some i
     ·rw[if_pos fP];exact(ih (i+1) told (fun p hp=>by have:=ht p hp;omega)).low (by omega)
     ·rw[if_neg fP];exact⟨Aa _,Aa _,hf.2,fP,e,(ih (i+1) (some i) (fun p hp=>by cases hp;omega)).low (Ew i)⟩
    ·rw[if_neg mx];exact⟨Aa _,hf.1,hf.2,fun hx=>by have:=ht j hx;omega,e,ih j (some j) (fun p hp=>by cases hp;omega)⟩
theorem ah_{T:Nat->gN}(hT:BC T n):yQ T n 0 none (gT T n 0 none):=aia hT _ _ _ (fun p hp=>by cases hp)
theorem yQ.mem{T:Nat->gN}:∀{l:List Ev} {lo:Nat} {told:Option Nat},yQ T n lo told l->∀e∈l,e.a<=e.b/\e.b<=n/\T e.a=some (e.b,e.gs)
 | [],_,_,_,e,he=>by simp at he
 |d::es,lo,told,h,e,he=>by
  rcases Bk.1 he with rfl|he
  ·exact⟨h.2.1,h.2.2.1,h.2.2.2.2.1⟩
  ·exact yQ.mem h.2.2.2.2.2 e he
def Kd(lo hi:Int)(gs:List Int)(g:Nat):Prop:=(gs.getD (2*g) (-1)= -1/\gs.getD (2*g+1) (-1)= -1)\/(lo<=gs.getD (2*g) (-1)/\gs.getD (2*g) (-1)<=gs.getD (2*g+1) (-1)/\gs.getD (2*g+1) (-1)<=hi)
def KD(x:TX)(lo:Int)(G:Nat)(O:Nat->Prop)(i:Nat)(gs:List Int):Prop:=gs.length=2*G/\∀g,g<G->(¬O g->Kd lo (x.eX i) gs g)/\(O g->lo<=gs.getD (2*g) (-1)/\gs.getD (2*g) (-1)<=x.eX i)
def PK(x:TX)(lo:Int)(G:Nat)(O:Nat->Prop)(K:aD):Prop:=∀i gs,i<=x.l.length->lo<=x.eX i->KD x lo G O i gs->∀j dc,K i gs=some (j,dc)->i<=j/\j<=x.l.length/\KD x lo G (fun _=>False) j dc
def PP(x:TX)(lo:Int)(G:Nat)(O:Nat->Prop)(K:aD×aD):Prop:=PK x lo G O K.1/\PK x lo G O K.2
def Fz(x:TX):Prop:=∀i j,i<=j->x.eX i<=x.eX j
theorem KD.later{G:Nat}(hx:Fz x)(h:KD x lo G O i gs)(mx:i<=j):KD x lo G O j gs:=by
 have hb:=hx i j mx;refine⟨h.1,fun g hg=>⟨fun hO=>?_,fun hO=>?_⟩⟩
 ·rcases(h.2 g hg).1 hO with h1|h1
  ·exact Or.inl h1
  ·exact Or.inr ⟨h1.1,h1.2.1,by omega⟩
 ·have:=(h.2 g hg).2 hO;omega
theorem PK.fq(x:TX)(lo:Int)(G:Nat)(O:Nat->Prop):PK x lo G O fq:=fun i gs _ _ _ j dc h=>by cases h
theorem PK.oB{G:Nat}{a b:aD}(ha:PK x lo G O a)(hb:PK x lo G O b):PK x lo G O (fT a b):=fun i gs h1 h2 h3 j dc h=>by
 unfold fT at h
 cases e:a i gs with
 |none=>rw[e]at h;exact hb i gs h1 h2 h3 j dc h
 |some v=>rw[e]at h;cases h;exact ha i gs h1 h2 h3 j dc e
theorem PP.oB{G:Nat}{a b:aD×aD}(ha:PP x lo G O a)(hb:PP x lo G O b):PP x lo G O (kQ a b):=⟨ha.1.oB hb.1,ha.2.oB hb.2⟩
theorem PP.FX{G:Nat}{a b:aD×aD}(lz:Bool)(ha:PP x lo G O a)(hb:PP x lo G O b):PP x lo G O (nK lz a b):=by
 unfold nK
 cases lz
 ·exact ha.oB hb
 ·exact hb.oB ha
theorem PK.take{G:Nat}(hx:Fz x)(sp:bN)(fo nt:Bool)(hk:PK x lo G O k):PK x lo G O (pP x sp fo nt k):=fun i gs h1 h2 h3 j dc h=>by
 unfold pP at h;split at h
 ·rename_i c
  have ar:i<x.l.length:=by simp at c;exact c.1
  have:=hk (i+1) gs ar (by have:=hx i (i+1) (by omega);omega) (h3.later hx (by omega)) j dc h;exact⟨by omega,this.2⟩
 ·cases h
theorem PK.vQ{G:Nat}(ed:Int)(hk:PK x lo G O k):PK x lo G O (xC x ed k):=fun i gs h1 h2 h3 j dc h=>by
 unfold xC at h;split at h
 ·exact hk i gs h1 h2 h3 j dc h
 ·cases h
theorem abp(l:List Int)(k:Nat)(v d:Int)(h:k<l.length):(l.set k v).getD k d=v:=by simp[Ae,h]
theorem Ly(l:List Int)(k m:Nat)(v d:Int)(h:k≠m):(l.set k v).getD m d=l.getD m d:=by
 simp[Ae,h]
theorem PK.zh{G:Nat}(g:Nat)(hg:g<G)(hk:PK x lo G O k):PK x lo G (fun q=>O q\/q=g) (zW x (2*g+1) k):=fun i gs h1 h2 h3 j dc h=>by
 unfold zW at h;refine hk i _ h1 h2 ?_ j dc h;refine⟨by simp[h3.1],fun q hq=>?_⟩;by_cases e:q=g
 ·subst e;have hl:2*q+1<gs.length:=by have:=h3.1;omega
  have h4:=(h3.2 q hq).2 (Or.inr rfl);rw[Kd,abp _ _ _ _ hl,Ly _ _ _ _ _ (by omega)];exact⟨fun _=>Or.inr ⟨h4.1,h4.2,Da _⟩,fun _=>h4⟩
 ·rw[Kd,Ly _ _ _ _ _ (by omega),Ly _ _ _ _ _ (by omega)];exact⟨fun hO=>(h3.2 q hq).1 (fun hx=>hx.elim hO e),fun hO=>(h3.2 q hq).2 (Or.inl hO)⟩
theorem PK.open{G:Nat}(g:Nat)(hg:g<G)(hk:PK x lo G (fun q=>O q\/q=g) k):PK x lo G O (zW x (2*g) k):=fun i gs h1 h2 h3 j dc h=>by
 unfold zW at h;refine hk i _ h1 h2 ?_ j dc h;refine⟨by simp[h3.1],fun q hq=>?_⟩;by_cases e:q=g
 ·subst e;have hl:2*q<gs.length:=by have:=h3.1;omega
  rw[abp _ _ _ _ hl];exact⟨fun hO=>absurd (Or.inr rfl) hO,fun _=>⟨h2,Da _⟩⟩
 ·rw[Kd,Ly _ _ _ _ _ (by omega),Ly _ _ _ _ _ (by omega)];exact⟨fun hO=>(h3.2 q hq).1 (fun hx=>hO (Or.inl hx)),fun hO=>(h3.2 q hq).2 (hO.resolve_right e)⟩
def PF(x:TX)(lo:Int)(G:Nat)(f:aD×aD->aD×aD):Prop:=∀O K,PP x lo G O K->PP x lo G O (f K)
theorem PF.iter{G:Nat}{f:aD×aD->aD×aD}(hf:PF x lo G f):∀m,PF x lo G (pF f m)
 |0=>fun O K h=>h
 |m+1=>fun O K h=>hf O _ (PF.iter hf m O K h)
theorem PF.oT{G:Nat}{f:aD×aD->aD×aD}(hf:PF x lo G f)(lz:Bool){nx:aD×aD}(hn:PP x lo G O nx):∀m,PP x lo G O (pF (AB f lz nx) m nx)
 |0=>hn
 |m+1=>(hf O _ (PF.oT hf lz hn m)).FX lz hn
theorem PF.again{G:Nat}{f:aD×aD->aD×aD}(hf:PF x lo G f)(lz:Bool){rest:aD}(hr:PK x lo G O rest):∀m,PK x lo G O (jv f lz rest m)
 |0=>PK.fq x lo G O
 |m+1=>by
  have h1:=(hf O (fq,jv f lz rest m) ⟨PK.fq x lo G O,PF.again hf lz hr m⟩).1;unfold jv
  cases lz
  ·exact h1.oB hr
  ·exact hr.oB h1
theorem PF.loop{G:Nat}{f:aD×aD->aD×aD}(hf:PF x lo G f)(lz:Bool):PF x lo G (so x f lz):=fun O K h=>by
 have h1:=(hf O (fq,jv f lz K.2 (x.l.length+1)) ⟨PK.fq x lo G O,hf.again lz h.2 _⟩).1;unfold so;exact PP.FX lz ⟨h1,h1⟩ h
theorem PF.times{G:Nat}{f:aD×aD->aD×aD}(hf:PF x lo G f)(a b:Int)(lz:Bool):PF x lo G (l9 x f a b lz):=fun O K h=>by
 unfold l9;split
 ·exact hf.iter _ O _ (hf.loop lz O K h)
 ·exact hf.iter _ O _ (hf.oT lz h _)
mutual
theorem NY(x:TX)(hx:Fz x)(lo:Int)(G:Nat):∀C:CT,C.fy G->PF x lo G (eH x C)
 |.node k sp fo nt ed gr a b lz aJ,hg=>by
  unfold CT.fy at hg;obtain⟨g1,g2,g3⟩:=hg;have tY:=anG x hx lo G aJ g3;have Ge:=aeZ x hx lo G aJ g3;have F8:=aeW x hx lo G aJ g3;unfold eH;by_cases k0:k=0
  ·simp only[k0,if_true];exact fun O K h=>⟨PK.take hx sp fo nt h.2,PK.take hx sp fo nt h.2⟩
  ·by_cases k1:k=1
   ·simp only[k1,if_true,Int.reduceEq,if_false];exact fun O K h=>⟨PK.vQ ed h.1,PK.vQ ed h.2⟩
   ·by_cases k2:k=2
    ·simp only[k2,if_true,Int.reduceEq,if_false];by_cases g0:gr=0
     ·simp only[g0,if_true];exact tY
     ·simp only[g0,if_false];intro O K h;have ar:gr.toNat-1<G:=(by omega);have h1:=tY (fun q=>O q\/q=gr.toNat-1) (yz x (2*(gr.toNat-1)+1) K) ⟨PK.zh _ ar h.1,PK.zh _ ar h.2⟩;exact⟨PK.open _ ar h1.1,PK.open _ ar h1.2⟩
    ·simp only[k0,k1,k2,if_false];by_cases k3:k=3
     ·simp only[k3,if_true];exact Ge
     ·by_cases k4:k=4
      ·simp only[k4,if_true,Int.reduceEq,if_false];exact F8
      ·simp only[k3,k4,if_false];exact tY.times a b lz
theorem anG(x:TX)(hx:Fz x)(lo:Int)(G:Nat):∀cs:List CT,CT.eI G cs->PF x lo G (uK x cs)
 | [],_=>fun O K h=>by unfold uK;exact h
 |c::cs,hg=>by
  unfold CT.eI at hg;unfold uK;exact NY x hx lo G c hg.1
theorem aeZ(x:TX)(hx:Fz x)(lo:Int)(G:Nat):∀cs:List CT,CT.eI G cs->PF x lo G (uL x cs)
 | [],_=>fun O K h=>by unfold uL;exact h
 |c::cs,hg=>by
  unfold CT.eI at hg;unfold uL;have h1:=NY x hx lo G c hg.1;have h2:=aeZ x hx lo G cs hg.2;exact fun O K h=>h1 O _ (h2 O K h)
theorem aeW(x:TX)(hx:Fz x)(lo:Int)(G:Nat):∀cs:List CT,CT.eI G cs->PF x lo G (qq x cs)
 | [],_=>fun O K h=>by unfold qq;exact⟨PK.fq x lo G O,PK.fq x lo G O⟩
 | [c],hg=>by
   unfold CT.eI at hg;unfold qq;exact NY x hx lo G c hg.1
 |c::d::cs,hg=>by
  unfold CT.eI at hg;unfold qq;have h1:=NY x hx lo G c hg.1;have h2:=aeW x hx lo G (d::cs) hg.2;exact fun O K h=>(h1 O K h).oB (h2 O K h)
end
theorem aoX(s:ByteArray):Fz (cG s):=fun i j h=>by rw[Ip,Ip];have:=rD s h;omega
theorem abo(n k:Nat):(List.replicate n (-1:Int)).getD k (-1)= -1:=by
 rw[Ae,Ec];split<;>rfl
theorem afm{G:Nat}(hg:C.fy G)(s:ByteArray)(hi:i<=(aW s).length)(h:AS C G (cG s) i=some (j,gs)):i<=j/\j<=(aW s).length/\gs.length=2*G/\∀g,g<G->Kd (bd s i) (bd s j) gs g:=by
 have h1:=(NY (cG s) (aoX s) (bd s i) G C hg (fun _=>False) (xW,xW) ⟨fun i gs a b c j dc h=>by cases h;exact⟨Aa _,a,c⟩,fun i gs a b c j dc h=>by cases h;exact⟨Aa _,a,c⟩⟩).2;obtain⟨a,b,c,d⟩:=h1 i (List.replicate (2*G) (-1)) hi (by rw[Ip];exact Da _) ⟨by simp,fun g _=>⟨fun _=>Or.inl ⟨abo _ _,abo _ _⟩,fun h=>h.elim⟩⟩ j gs h;refine⟨a,b,c,fun g IZ=>?_⟩;have:=(d g IZ).1 (fun h=>h);rw[Ip]at this;exact this
theorem Yc{G:Nat}(hg:C.fy G)(s:ByteArray):BC (AS C G (cG s)) (aW s).length:=fun i j gs hi h=>by
 have:=afm hg s hi h;exact⟨this.1,this.2.1⟩
theorem adu(st:RS)(e p:Int):(st.bG e p).aC=st.aC:=rfl
theorem amY(g:RG)(st:RS):(mJ g st).aC=st.aC:=rfl
theorem uC(g:RG)(l:List UInt8)(st:RS):(di g l st).aC=st.aC:=by unfold di;split<;>rfl
theorem WV(g:RG)(l:List UInt8)(st:RS):(lF g l st).aC=st.aC:=by unfold lF;split<;>rfl
theorem E8(g:RG)(l:List UInt8)(st:RS):(bT g l st).aC=st.aC:=by unfold bT;split<;>rfl
theorem Xh(g:RG)(st:RS):(ey g st).1.aC=st.aC:=by unfold ey;split<;>rfl
theorem Xn(g:RG)(st:RS):(aK g st).1.aC=st.aC:=by
 unfold aK;split
 ·simp only;rw[Xh,Xh]
 ·exact Xh g st
theorem al1(g:RG)(st:RS):(n_ g st).1.aC=st.aC:=by
 unfold n_;split
 ·rfl
 ·exact Xn g st
theorem adX(g:RG)(st:RS):(cT g st).1.aC=st.aC:=by
 unfold cT;split
 ·simp only;rw[uC,al1];exact Xn g st
 ·simp only;rw[uC,Xn]
theorem Xt(g:RG)(a:PT)(st:RS):(dU g a st).1.aC=st.aC:=by
 unfold dU;split
 ·simp only;rw[E8]
 ·split
  ·simp only;rw[E8]
  ·split
   ·simp only;rw[E8]
   ·split
    ·simp only;rw[E8];split
     ·rw[adu,adX]
     ·rw[adX]
    ·rfl
theorem amf(g:RG)(e:Bool)(st:RS):(je g e st).1.aC=st.aC:=by
 unfold je
 cases e
 ·exact WV g _ st
 ·exact uC g _ st
theorem Xr(g:RG)(st:RS):(a_ g st).1.aC=st.aC:=by unfold a_;rw[amf,E8]
theorem amj(g:RG)(p:Int)(x:RS×Int):(jT g p x).aC=x.1.aC:=by
 unfold jT;split
 ·split
  ·rw[adu,Xr]
  ·rw[Xr]
 ·rfl
theorem ad6(g:RG)(st:RS):(cK g st).aC=st.aC:=by
 unfold cK;split
 ·rfl
 ·rw[amj,Xr]
theorem ad_(g:RG):∀(m:Nat) (st:RS),(fu g m st).aC=st.aC
 |0,st=>rfl
 |m+1,st=>by
  unfold fu;split
  ·rfl
  ·rw[ad_ g m,ad6]
theorem ad0(g:RG)(st:RS):(iT g st).aC=st.aC:=by unfold iT;rw[uC,ad_,ad6,E8]
theorem aeg(g:RG)(first:Nat):∀(m:Nat) (st:RS),(fB g first m st).aC=st.aC
 |0,st=>rfl
 |m+1,st=>by
  unfold fB;split
  ·rw[aeg g first m]
  ·rfl
theorem amb(g:RG)(first:Nat)(st:RS):(jd g first st).aC=st.aC:=by
 unfold jd;split<;>rfl
theorem aek(g:RG)(st:RS):(jS g st).aC=st.aC:=by unfold jS;rw[uC,amb,aeg,uC]
theorem ad3(g:RG)(st:RS):st.aC<=(dy g st).aC/\(ak dG (aa g st)=false->(dy g st).aC=st.aC+1)/\(¬ak dG (aa g st)=false->ak pH (aa g {st with next:=st.next+1})=true->(dy g st).aC=st.aC+1):=by
 unfold dy;by_cases h1:ak dG (aa g st)=false
 ·rw[if_pos h1];exact⟨by simp,fun _=>rfl,fun h=>absurd h1 h⟩
 ·rw[if_neg h1];by_cases h2:ak pH (aa g {st with next:=st.next+1})=true
  ·rw[if_pos h2,aek];exact⟨by simp,fun h=>absurd h h1,fun _ _=>rfl⟩
  ·rw[if_neg h2,uC,E8];exact⟨by simp,fun h=>absurd h h1,fun _ h=>absurd h h2⟩
def Gm(aw:RS->RS×PT):Prop:=∀st,st.aC<=(aw st).1.aC
theorem adV(g:RG)(aw:RS->RS×PT)(halt:Gm aw)(st:RS):st.aC<=(bD g aw st).1.aC:=by
 unfold bD;split
 ·unfold jr;simp only;rw[uC];have h1:=(ad3 g {st with next:=st.next+1}).1;have h2:=halt (dy g {st with next:=st.next+1});simp only at h1;omega
 ·split
  ·simp only;rw[ad0];exact Aa _
  ·split
   ·simp only;rw[uC];exact Aa _
   ·split
    ·exact Aa _
    ·simp only;rw[WV];exact Aa _
theorem aeu(g:RG)(aw:RS->RS×PT)(halt:Gm aw):∀(m:Nat) (st:RS) (aA:List PT),st.aC<=(eA g aw m st aA).1.aC
 |0,st,aA=>Aa _
 |m+1,st,aA=>by
  unfold eA;split
  ·exact Aa _
  ·have h1:=aeu g aw halt m (dU g (bD g aw st).2 (bD g aw st).1).1 (aA++[(dU g (bD g aw st).2 (bD g aw st).1).2]);rw[Xt]at h1;have h2:=adV g aw halt st;omega
theorem Xu(g:RG)(aw:RS->RS×PT)(halt:Gm aw):Gm (cU g aw):=fun st=>aeu g aw halt _ _ _
theorem adR(g:RG)(aw:RS->RS×PT)(halt:Gm aw):∀(m:Nat) (st:RS) (aA:List PT),st.aC<=(eE g aw m st aA).1.aC
 |0,st,aA=>Aa _
 |m+1,st,aA=>by
  unfold eE;split
  ·have h1:=adR g aw halt m (cU g aw {st with next:=st.next+1}).1 (aA++[(cU g aw {st with next:=st.next+1}).2]);have h2:=Xu g aw halt {st with next:=st.next+1};simp only at h2;omega
  ·exact Aa _
theorem RD(g:RG):∀k:Nat,Gm (aE g k)
 |0=>fun st=>Aa _
 |k+1=>fun st=>by
  unfold aE;have h1:=Xu g _ (RD g k) st;have h2:=adR g _ (RD g k) (g.rs.length+1) (cU g (aE g k) st).1 [(cU g (aE g k) st).2];simp only;omega
mutual
theorem aiF(h:G<=G'):∀C:CT,C.fy G->C.fy G'
 |.node k sp fo nt ed gr lo hi lz aJ,hg=>by
  unfold CT.fy at hg⊢;exact⟨hg.1,by omega,Px h aJ hg.2.2⟩
theorem Px(h:G<=G'):∀cs:List CT,CT.eI G cs->CT.eI G' cs
 | [],_=>by unfold CT.eI;trivial
 |c::cs,hg=>by
  unfold CT.eI at hg⊢;exact⟨aiF h c hg.1,Px h cs hg.2⟩
end
theorem UJ:∀{a b:List CT},CT.eI G a->CT.eI G b->CT.eI G (a++b)
 | [],b,_,hb=>hb
 |c::a,b,ha,hb=>by
  unfold CT.eI at ha;show CT.eI G (c::(a++b))
  unfold CT.eI;exact⟨ha.1,UJ ha.2 hb⟩
theorem F6{c:CT}(h:c.fy G):CT.eI G [c]:=by unfold CT.eI;exact⟨h,by unfold CT.eI;trivial⟩
theorem LA(G:Nat)(sp:bN)(fo nt:Bool):(kM sp fo nt).fy (G:Int):=by
 unfold kM CT.fy CT.eI;simp
theorem abx(G:Nat)(e:Int):(sJ e).fy (G:Int):=by
 unfold sJ CT.fy CT.eI;simp
theorem aiH{G:Nat}(ha:a.fy (G:Int))(lo hi:Int)(lz:Bool):(pj a lo hi lz).fy (G:Int):=by
 unfold pj CT.fy;exact⟨Da _,by omega,F6 ha⟩
theorem aiG(g:RG){G:Nat}(ha:a.fy (G:Int))(st:RS):(nH g a st).fy (G:Int):=by
 unfold nH;(repeat' split)<;>first|exact aiH ha _ _ _|exact ha
def Gc(aw:RS->RS×PT)(bL:Bool->RS->CT):Prop:=∀fo st,(bL fo st).fy ((aw st).1.aC:Int)
theorem aiE(g:RG)(aw:RS->RS×PT)(halt:Gm aw)(bL:Bool->RS->CT)(hc:Gc aw bL)(fo:Bool)(st:RS):(jL g bL fo st).fy ((bD g aw st).1.aC:Int):=by
 unfold jL bD;by_cases h1:ak vC (aa g st)=true
 ·rw[if_pos h1,if_pos h1];unfold jr;simp only;rw[uC];have hH:=ad3 g {st with next:=st.next+1};have hA:=halt (dy g {st with next:=st.next+1});unfold tO;split
  ·rename_i h2
   have:=hH.2.1 h2;unfold CT.fy;simp only at this⊢;exact⟨by omega,by omega,F6 (hc _ _)⟩
  ·rename_i h2
   split
   ·rename_i h3
    have:=hH.2.2 h2 h3;unfold CT.fy;simp only at this⊢;exact⟨by omega,by omega,F6 (hc _ _)⟩
   ·unfold CT.fy;exact⟨by omega,by omega,F6 (hc _ _)⟩
 ·rw[if_neg h1];split
  ·exact LA _ _ _ _
  ·split
   ·unfold mi;(repeat' split)<;>first|exact LA _ _ _ _|exact abx _ _
   ·split
    ·unfold Is;(repeat' split)<;>first|exact LA _ _ _ _|exact abx _ _
    ·exact LA _ _ _ _
theorem abz(g:RG)(aw:RS->RS×PT)(halt:Gm aw)(bL:Bool->RS->CT)(hc:Gc aw bL)(fo:Bool):∀(m:Nat) (st:RS) (aA:List CT) (ps:List PT),CT.eI (st.aC:Int) aA->CT.eI ((eA g aw m st ps).1.aC:Int) (lO g aw bL fo m st aA)
 |0,st,aA,ps,ha=>ha
 |m+1,st,aA,ps,ha=>by
  unfold eA lO;split
  ·exact ha
  ·refine abz g aw halt bL hc fo m _ _ _ ?_;have h1:=adV g aw halt st;rw[Xt];exact UJ (Px (by omega) _ ha) (F6 (aiG g (aiE g aw halt bL hc fo st) _))
theorem aby(g:RG)(aw:RS->RS×PT)(halt:Gm aw)(bL:Bool->RS->CT)(hc:Gc aw bL)(fo:Bool)(st:RS):(nI g aw bL fo st).fy ((cU g aw st).1.aC:Int):=by
 unfold nI CT.fy cU;exact⟨Da _,by omega,abz g aw halt bL hc fo _ st [] [] (by unfold CT.eI;trivial)⟩
theorem abw(g:RG)(aw:RS->RS×PT)(halt:Gm aw)(bL:Bool->RS->CT)(hc:Gc aw bL)(fo:Bool):∀(m:Nat) (st:RS) (aA:List CT) (ps:List PT),CT.eI (st.aC:Int) aA->CT.eI ((eE g aw m st ps).1.aC:Int) (ke g aw bL fo m st aA)
 |0,st,aA,ps,ha=>ha
 |m+1,st,aA,ps,ha=>by
  unfold eE ke;split
  ·refine abw g aw halt bL hc fo m _ _ _ ?_;have h1:=Xu g aw halt {st with next:=st.next+1};simp only at h1;exact UJ (Px (by omega) _ ha) (F6 (aby g aw halt bL hc fo _))
  ·exact ha
theorem Pw(g:RG):∀k:Nat,Gc (aE g k) (dW g k)
 |0=>fun fo st=>LA _ _ _ _
 |k+1=>fun fo st=>by
  have h1:=aby g (aE g k) (RD g k) (dW g k) (Pw g k) fo st;unfold dW CT.fy aE;exact⟨Da _,by omega,abw g (aE g k) (RD g k) (dW g k) (Pw g k) fo _ _ _ _ (F6 h1)⟩
theorem aiI(g:RG)(st:RS):(qD g st).fy ((dw g st).1.aC:Int):=by
 unfold dw;split
 ·exact Pw g _ false st
 ·exact Pw g _ false st
def ln(l:bN):Prop:=∀s∈l,0<=s.1/\s.1<=s.2/\s.2<=1114111
theorem ln.append{a b:bN}(ha:ln a)(hb:ln b):ln (a++b):=fun s hs=>(A2.1 hs).elim (ha s) (hb s)
theorem ln.one{x y:Int}(h:0<=x/\x<=y/\y<=1114111):ln [(x,y)]:=fun s hs=>by simp at hs;subst hs;exact h
theorem ln.set(r:Int):ln (k_ r):=by
 unfold k_;(repeat' split)<;>(intro s hs;simp at hs)<;>(rcases hs with rfl|rfl|rfl|rfl)<;>simp
theorem wk.an7{S:bN}{fo nt:Bool}(h:wk S sp fo nt)(hw:ln sp):pY S/\∀c,0<=c->c<=1114111->bM S c=mM sp fo nt c:=h.has hw
mutual
def CT.l_:CT->Prop
 |.node k sp fo nt ed gr lo hi lz aJ=>ln sp/\CT.lh aJ
def CT.lh:List CT->Prop
 | []=>True
 |c::cs=>CT.l_ c/\CT.lh cs
end
def wg(g:RG):Prop:=∀r∈g.rs,0<=r/\r<=1114111
theorem aeT(hg:wg g)(st:RS)(h:aa g st≠ -1):0<=aa g st/\aa g st<=1114111:=by
 unfold aa at h⊢;rw[Ae]at h⊢
 cases e:g.rs[st.next]? with
 |none=>rw[e]at h;exact absurd rfl h
 |some r=>exact hg r (Cg e)
theorem acD{r:Int}(h:ak l r=true):0<=r/\r<=255:=by
 unfold ak at h;obtain⟨b,hb,e⟩:=Cx.1 h;have:=b.toNat_lt;have:(b.toNat:Int)=r:=by simpa using e
 omega
theorem adl{st:RS}(h:fD (di g l st).au):ak l (aa g st)=true:=by
 unfold di at h;split at h
 ·assumption
 ·exact absurd h.1 WZ
theorem alc{st:RS}(h:fD (lF g l st).au):aa g st≠ -1:=by
 unfold lF at h;split at h
 ·exact absurd h.1 WZ
 ·rename_i c;exact fun e=>c (Or.inl e)
theorem aa0{c:Int}(h:0<=c/\c<=1114111):0<=lr c/\lr c<=1114111:=by
 unfold lr;(repeat' split)<;>omega
theorem adE(hg:wg g){st:RS}(h:fD (a_ g st).1.au):0<=(a_ g st).2/\(a_ g st).2<=1114111:=by
 unfold a_ je at h⊢;by_cases e:ak dC (aa g st)=true
 ·rw[e]at h⊢;simp only[if_true]at h⊢;have:=acD (adl h);exact aa0 (by omega)
 ·rw[Ck.2 e]at h⊢;simp only[Ag,if_false]at h⊢;exact aeT hg _ (alc h)
theorem acX(hg:wg g){st:RS}(h:fD (cK g st).au):ln (gS g st):=by
 unfold cK at h;unfold gS;by_cases c:ak dC (aa g st)=true/\ak fc (aa g {st with next:=st.next+1})=true
 ·rw[if_pos c];exact ln.set _
 ·rw[if_neg c]at h⊢;have h1:=adE hg ((Xz g _ _).kh h);by_cases d:ak qV (aa g (a_ g st).1)=true
  ·rw[if_pos d];unfold jT at h;rw[if_pos d]at h;split at h
   ·exact absurd h.2.2 alv
   ·rename_i hn
    have h2:=adE hg h;exact ln.one ⟨h1.1,by omega,h2.2⟩
  ·rw[if_neg d];exact ln.one ⟨h1.1,Da _,h1.2⟩
theorem acZ(hg:wg g):∀(m:Nat) (st:RS) (aA:bN),ln aA->fD (fu g m st).au->ln (p9 g m st aA)
 |0,st,aA,ha,_=>ha
 |m+1,st,aA,ha,h=>by
  unfold fu at h;unfold p9;split
  ·exact ha
  ·rename_i c
   rw[if_neg c]at h;exact acZ hg m _ _ (ha.append (acX hg ((Ny g m _).kh h))) h
theorem Ym:∀{a b:List CT},CT.lh a->CT.lh b->CT.lh (a++b)
 | [],b,_,hb=>hb
 |c::a,b,ha,hb=>by
  unfold CT.lh at ha;show CT.lh (c::(a++b))
  unfold CT.lh;exact⟨ha.1,Ym ha.2 hb⟩
theorem N9{c:CT}(h:c.l_):CT.lh [c]:=by unfold CT.lh;exact⟨h,by unfold CT.lh;trivial⟩
theorem J5:ln []:=fun s hs=>by cases hs
theorem J6(h:ln sp)(fo nt:Bool):(kM sp fo nt).l_:=by
 unfold kM CT.l_ CT.lh;exact⟨h,trivial⟩
theorem afw(e:Int):(sJ e).l_:=by
 unfold sJ CT.l_ CT.lh;exact⟨J5,trivial⟩
theorem apr(ha:a.l_)(lo hi:Int)(lz:Bool):(pj a lo hi lz).l_:=by
 unfold pj CT.l_;exact⟨J5,N9 ha⟩
theorem apq(g:RG)(ha:a.l_)(st:RS):(nH g a st).l_:=by
 unfold nH;(repeat' split)<;>first|exact apr ha _ _ _|exact ha
def Wc(aw:RS->RS×PT)(bL:Bool->RS->CT):Prop:=∀fo st,fD (aw st).1.au->(bL fo st).l_
theorem apo(hg:wg g)(aw:RS->RS×PT)(bL:Bool->RS->CT)(oD:Wc aw bL)(fo:Bool)(st:RS)(aF:aa g st≠ -1)(hc:fD (bD g aw st).1.au):(jL g bL fo st).l_:=by
 unfold bD at hc;unfold jL;split
 ·rename_i h1
  rw[if_pos h1]at hc;have cP:=(tn g _ _).kh (show fD (di g vD (aw (dy g {st with next:=st.next+1})).1).au from hc)
  have:∀(fo:Bool) (gr:Int),(CT.node 2 [] false false 0 gr 0 0 false [bL fo (dy g {st with next:=st.next+1})]).l_:=by
   intro fo gr;unfold CT.l_;exact⟨J5,N9 (oD _ _ cP)⟩
  unfold tO;(repeat' split)<;>exact this _ _
 ·rename_i h1
  rw[if_neg h1]at hc;split
  ·rename_i h2
   rw[if_pos h2]at hc;unfold iT at hc;have c1:=(tn g _ _).kh hc;have c2:=(Ny g _ _).kh c1;exact J6 (acZ hg _ _ _ (acX hg c2) c1) _ _
  ·rename_i h2
   rw[if_neg h2]at hc;split
   ·rename_i h3
    rw[if_pos h3]at hc;have:=acD (adl hc);unfold mi;have he:=aa0 (c:=aa g {st with next:=st.next+1}) (by omega);(repeat' split)<;>first|exact J6 (ln.set _) _ _|exact afw _|exact J6 (ln.one ⟨he.1,Da _,he.2⟩) _ _
   ·split
    ·unfold Is;split<;>first|exact J6 (ln.one (by omega)) _ _|exact afw _
    ·have:=aeT hg st aF;exact J6 (ln.one ⟨this.1,Da _,this.2⟩) _ _
theorem afy(hg:wg g)(aw:RS->RS×PT)(halt:∀st,df st.au (aw st).1.au)(bL:Bool->RS->CT)(oD:Wc aw bL)(fo:Bool):∀(m:Nat) (st:RS) (aA:List CT) (ps:List PT),CT.lh aA->fD (eA g aw m st ps).1.au->CT.lh (lO g aw bL fo m st aA)
 |0,st,aA,ps,ha,hc=>ha
 |m+1,st,aA,ps,ha,hc=>by
  unfold eA at hc;unfold lO;split
  ·exact ha
  ·rename_i h1
   rw[if_neg h1]at hc;have c1:=(ND g aw halt m _ _).kh hc;have c2:=(RJ g _ _).kh c1;exact afy hg aw halt bL oD fo m _ _ _ (Ym ha (N9 (apq g (apo hg aw bL oD fo st (fun e=>h1 (Or.inl e)) c2) _))) hc
theorem afx(hg:wg g)(aw:RS->RS×PT)(halt:∀st,df st.au (aw st).1.au)(bL:Bool->RS->CT)(oD:Wc aw bL)(fo:Bool)(st:RS)(hc:fD (cU g aw st).1.au):(nI g aw bL fo st).l_:=by
 have:=afy hg aw halt bL oD fo _ st [] [] (by unfold CT.lh;trivial) hc;unfold nI CT.l_;exact⟨J5,this⟩
theorem afv(hg:wg g)(aw:RS->RS×PT)(halt:∀st,df st.au (aw st).1.au)(bL:Bool->RS->CT)(oD:Wc aw bL)(fo:Bool):∀(m:Nat) (st:RS) (aA:List CT) (ps:List PT),CT.lh aA->fD (eE g aw m st ps).1.au->CT.lh (ke g aw bL fo m st aA)
 |0,st,aA,ps,ha,hc=>ha
 |m+1,st,aA,ps,ha,hc=>by
  unfold eE at hc;unfold ke;split
  ·rename_i h1
   rw[if_pos h1]at hc;have c1:=(EP g aw halt m _ _).kh hc;exact afv hg aw halt bL oD fo m _ _ _ (Ym ha (N9 (afx hg aw halt bL oD fo _ c1))) hc
  ·exact ha
theorem Yl(hg:wg g):∀(k:Nat),Wc (aE g k) (dW g k)
 |0=>fun fo st hc=>J6 J5 _ _
 |k+1=>fun fo st hc=>by
  unfold aE at hc;have hle:=Nx g k;have c1:=(EP g (aE g k) hle _ _ _).kh hc;have h1:=afx hg (aE g k) hle (dW g k) (Yl hg k) fo st c1;have h2:=afv hg (aE g k) hle (dW g k) (Yl hg k) fo _ _ _ _ (N9 h1) hc;unfold dW CT.l_;exact⟨J5,h2⟩
theorem aps(hg:wg g)(st:RS)(hc:fD (dw g st).1.au):(qD g st).l_:=by
 refine Yl hg _ false st ?_;unfold dw at hc;split at hc
 ·exact hc
 ·exact(JS g _).kh hc
def MQ(G:Int)(m:MS):Prop:=(m.aT=1->ln m.sp)/\(m.aT=3->0<=m.slot/\m.slot<2*G)/\(0<=m.aT/\m.aT<=4)
def jH(G:Int)(st:List MS):Prop:=∀m∈st,MQ G m
def BQ(G:Int)(f:Bl):Prop:=∀st nx,jH G st->jH G (f st nx).1
theorem jH.lg(h:jH G st)(hm:MQ G m):jH G (st++[m]):=fun x hx=>by
 rcases A2.1 hx with h1|h1
 ·exact h x h1
 ·simp at h1;subst h1;exact hm
theorem MQ.oB(G:Int)(a b:Int):MQ G (kR a b):=⟨fun h=>by simp[kR]at h,fun h=>by simp[kR]at h,by simp[kR]⟩
theorem MQ.zero(G:Int):MQ G cy:=⟨fun h=>by simp[cy]at h,fun h=>by simp[cy]at h,by simp[cy]⟩
theorem MQ.vQ(G:Int)(e n:Int):MQ G (tC e n):=⟨fun h=>by simp[tC]at h,fun h=>by simp[tC]at h,by simp[tC]⟩
theorem MQ.mark{s:Int}(hs:0<=s/\s<2*G)(n:Int):MQ G (iG s n):=⟨fun h=>by simp[iG]at h,fun h=>hs,by simp[iG]⟩
theorem MQ.take(h:ln sp)(fo nt:Bool)(n:Int):MQ G (qt sp fo nt n):=⟨fun _=>h,fun h=>by simp[qt]at h,by simp[qt]⟩
theorem BQ.tl{s:Int->MS}(hs:∀n,MQ G (s n)):BQ G (ft s):=fun st nx h=>by
 unfold ft;(repeat' split)<;>first|exact h.lg (hs _)|exact(h.lg (hs _)).lg (hs _)
theorem jH.Ur(h:jH G st)(a b:Int):jH G (ei st a b).1:=by
 unfold ei;(repeat' split)<;>first|exact h|exact h.lg (MQ.oB G _ _)
theorem jH.oB(h:jH G st)(f s:Ex):jH G (gx st f s).1:=by
 unfold gx;split
 ·exact h.Ur _ _
 ·exact(h.Ur _ _).Ur _ _
theorem jH.FX(h:jH G st)(lz:Bool)(f s:Ex):jH G (dE lz st f s).1:=by
 unfold dE;split<;>exact h.oB _ _
theorem BQ.nj(hf:BQ G f):∀m,BQ G (ow f m)
 |0=>fun st nx h=>h
 |m+1=>fun st nx h=>BQ.nj hf m _ _ (hf st nx h)
theorem BQ.oT(hf:BQ G f)(lz:Bool)(nx:Ex):∀m,BQ G (fI f lz nx m)
 |0=>fun st a h=>h
 |m+1=>fun st a h=>BQ.oT hf lz nx m _ _ ((hf st a h).FX lz _ _)
theorem jH.getD(h:jH G st)(k:Nat):MQ G (st.getD k cy):=by
 rw[Ae]
 cases e:st[k]? with
 |none=>exact MQ.zero G
 |some m=>exact h m (Cg e)
theorem BQ.loop(hf:BQ G f)(lz:Bool):BQ G (ou f lz):=fun st nx h=>by
 have h1:jH G (rC f lz st nx).1:=by unfold rC;exact(hf _ _ (h.lg (MQ.zero G))).FX lz _ _
 unfold ou;intro m hm;rcases D1 hm with h2|h2
 ·exact h1 m h2
 ·rw[h2];exact h1.getD _
theorem BQ.times(hf:BQ G f)(lo hi:Int)(lz:Bool):BQ G (ox f lo hi lz):=fun st nx h=>by
 unfold ox;split
 ·exact hf.nj _ _ _ (hf.loop lz st nx h)
 ·exact hf.nj _ _ _ (hf.oT lz nx _ st nx h)
mutual
theorem KU:∀C:CT,C.fy G->C.l_->BQ G (bQ C)
 |.node k sp fo nt ed gr a b lz aJ,hg,hw=>by
  unfold CT.fy at hg;unfold CT.l_ at hw;obtain⟨g1,g2,g3⟩:=hg;have tY:=agt aJ g3 hw.2;have Ge:=Z9 aJ g3 hw.2;have F8:=Z4 aJ g3 hw.2;intro st nx h;unfold bQ;split
  ·exact h.lg (MQ.take hw.1 _ _ _)
  ·split
   ·exact BQ.tl (MQ.vQ G ed) st nx h
   ·split
    ·split
     ·exact tY st nx h
     ·exact BQ.tl (MQ.mark (by omega)) _ _ (tY _ _ (BQ.tl (MQ.mark (by omega)) st nx h))
    ·split
     ·exact Ge st nx h
     ·split
      ·exact F8 st nx h
      ·exact tY.times a b lz st nx h
theorem agt:∀cs:List CT,CT.eI G cs->CT.lh cs->BQ G (mS cs)
 | [],_,_=>fun st nx h=>by unfold mS;exact h
 |c::cs,hg,hw=>by
  unfold CT.eI at hg;unfold CT.lh at hw;unfold mS;exact KU c hg.1 hw.1
theorem Z9:∀cs:List CT,CT.eI G cs->CT.lh cs->BQ G (kL cs)
 | [],_,_=>fun st nx h=>by unfold kL;exact h
 |c::cs,hg,hw=>by
  unfold CT.eI at hg;unfold CT.lh at hw;unfold kL;have h1:=KU c hg.1 hw.1;have h2:=Z9 cs hg.2 hw.2;exact fun st nx h=>h1 _ _ (h2 st nx h)
theorem Z4:∀cs:List CT,CT.eI G cs->CT.lh cs->BQ G (jh cs)
 | [],_,_=>fun st nx h=>by unfold jh;exact h
 | [c],hg,hw=>by
   unfold CT.eI at hg;unfold CT.lh at hw;unfold jh;exact KU c hg.1 hw.1
 |c::d::cs,hg,hw=>by
  unfold CT.eI at hg;unfold CT.lh at hw;have h1:=KU c hg.1 hw.1;have h2:=Z4 (d::cs) hg.2 hw.2;intro st nx h;unfold jh;exact(h1 _ _ (h2 st nx h)).oB _ _
end
theorem aan(hg:C.fy G)(hw:C.l_):jH G (fR C).1:=KU C hg hw [cy] (0,0) (fun m hm=>by simp at hm;subst hm;exact MQ.zero G)
theorem an0(h:jH G M):jH G (sorted M V):=fun m hm=>by
 unfold sorted at hm;obtain⟨s,_,rfl⟩:=Bh.1 hm;have:=h.getD (G:=G) s;unfold MQ at*;simpa using this
theorem uS.LB(h:uS C V j)(hq:jH G (fR C).1):uR (sorted (fR C).1 V):=by
 obtain⟨R,h1,h2,h3⟩:=h.aV;exact anZ h1 h2 (fun m hm=>(hq m hm).2.2) (fun t ht=>h.num t (Or.inr ht))
theorem uS.jf(h:uS C V j)(bC:C.ok)(bm:C.sz<=1000)(hg:C.fy G)(x:TX)(hu:V.num.getD j 0=(u:Int))(hi:i<=x.l.length)(gs:List Int):bA (sorted (fR C).1 V) x (u:Int) i gs ((eH x C (xW,xW)).2 i gs):=by
 obtain⟨R,h1,h2,h3⟩:=h.aV;have hx:dv [cy].length (0,0):=by unfold dv;simp
 have g:=(pf C bC bm).grow [cy] (0,0)
 have h0:(fR C).1[0]? =some cy:=by
  have:=Lz g.2 (j:=0) (by simp);exact this
 have hr:=(((KT x G C bC bm hg).1.jf [cy] (0,0) hx (fR C).1 (fun _ _ _=>rfl) (xW,xW) i hi).2 (fun j vo ko gs=>bA.done 0 cy j gs h0 rfl)) gs;have mB:bA (fR C).1 x (fR C).2.2 i gs ((eH x C (xW,xW)).2 i gs):=hr;rw[h.first]at mB;obtain⟨u',MH⟩:=h.num j (Or.inl rfl);have e:V.num.getD j 0=(u':Int):=yB MH;have e2:u'=u:=by omega
 subst e2;exact an1 h1 h2 (fun t ht=>h.num t (Or.inr ht)) mB u' (by simpa using MH)
end Go.Proofs.YtmbpfhlnifdhgaaGreatDoor
