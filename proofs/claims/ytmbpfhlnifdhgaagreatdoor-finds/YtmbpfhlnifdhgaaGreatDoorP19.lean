/- The reference -/
import Derived.Test.YtmbpfhlnifdhgaaGreatDoorP18
import Derived.Test.YtmbpfhlnifdhgaaGreatDoorP17
set_option linter.unusedVariables false
set_option linter.unusedSimpArgs false
set_option maxRecDepth 100000
set_option maxHeartbeats 32000000
namespace Go.Proofs.YtmbpfhlnifdhgaaGreatDoor
open Go.Proofs.Tryz
open Go.RowKit Go.Maps
variable {p s:ByteArray} {E:EG} {G G':GH} {l:List (Ev×Value)} {xs:List Int} {K b base bl cap cg gb gn i lo n pb xb:Nat} {T:Nat->gN} {U X:Nat->Prop} {ag ao:Option Addr} {told:Option Nat} {g:RG} {R:RT} {v v2:Value} {W w w' wr:World}
def uJ(g:RG)(s:ByteArray):Int×Int:=
 if 300<s.size then(1,0)else if 0<=p8 s then(2,p8 s)else if 0<=jM s.size jU (fC s)then(3,jM s.size jU (fC s))else pick (ix g s)
structure BA(g:RG)(s:ByteArray):Prop where
 rs:g.rs=(fC s).map (·.2)
 ps:g.ps=(fC s).map (fun p=>(p.1:Int))++[(s.size:Int)]
theorem BA.gd(h:BA g s):Gd g (fC s) s.size where
 rs:=h.rs
 ps i hi:=by
  rw[h.ps,List.getD,Au (by simpa using hi)];simp[Ab hi]
 pe:=by
  rw[h.ps,List.getD,Be (by simp)];simp
 nn p hp:=by rw[(R0 s _ _ p hp).2];omega
theorem ES{Q:Ending->World->Prop}{a:Act}{v3:Value}{x y:Int}(h2:a.tmps.getD 2 undef=v2)(h3:a.tmps.getD 3 undef=v3)(h4:a.tmps.getD 4 undef=.int .i64 x)(h5:a.tmps.getD 5 undef=.int .i64 y)(hd:a.defers=[])
 (hQ:Q (.returned (.tuple #[v2,v3,.int .i64 x,.int .i64 y])) W):bodyPost prog Tryz.f7 Q Exit.ret a W:=by
 have s2:a.tmps[2]?.getD undef=v2:=by simpa using h2
 have s3:a.tmps[3]?.getD undef=v3:=by simpa using h3
 have s4:a.tmps[4]?.getD undef=.int .i64 x:=by simpa using h4
 have s5:a.tmps[5]?.getD undef=.int .i64 y:=by simpa using h5
 exact Ct (v:=.tuple #[v2,v3,.int .i64 x,.int .i64 y]) (by simp[results,results7,go_sem,s2,s3,s4,s5]) hd hQ
theorem afX(s:ByteArray)(w:World)(hs:300<s.size)(hm:s.size<=maxLen):
 Calls prog 7 #[.string s] w fun e w'=>e=.returned (.tuple #[.pointer none,.slice none 0 0,.int .i64 1,.int .i64 0])/\I aq w w':=by
 have hb:(300:Int)<(s.size:Int):=by omega
 go_in
 go_wp2_with fail
 exact ES rfl rfl rfl rfl rfl ⟨rfl,I.refl _ _⟩
theorem qx.low{l:List (Nat×Int)}(h:qx w lo b ao l):qx w 0 b ao l:=⟨fun hl=>⟨(h.isSome hl).1,Aw _,(h.isSome hl).2.2⟩,h.cells⟩
def OQ(w:World)(g:RG)(s:ByteArray)(e:Ending)(w':World):Prop:=
 ∃v1 v2,e=.returned (.tuple #[v1,v2,.int .i64 (uJ g s).1,.int .i64 (uJ g s).2])/\I aq w w'/\((uJ g s).1≠0->v2=.slice none 0 0)/\((uJ g s).1=0->∃nl lo b,w.heap.size<=lo/\w'.ownsRow lo 9 1 v2 nl.length (nl.map fun x=>.string ⟨x.toArray⟩)/\tK (dw g (bP s)).1 nl/\v1=.pointer (some ⟨b,0,none⟩)/\eV w' (Fr lo w'.heap.size v2) b (dw g (bP s)).2 (vM g (bP s)))
theorem afY(s:ByteArray)(w:World)(g:RG)(hs:s.size<=300)(hb:0<=p8 s):Calls prog 7 #[.string s] w (OQ w g s):=by
 have bm:¬(300:Int)<(s.size:Int):=by omega
 have hp:uJ g s=(2,p8 s):=by unfold uJ;rw[if_neg (by omega),if_pos hb]
 go_in
 go_wp2_with fail
 refine(TM s w (by omega)).mono ?_;rintro e w1 ⟨rfl,aI⟩;go_wp2_with fail;exact ES (v2:=.pointer none) (v3:=.slice none 0 0) (x:=2) (y:=p8 s) rfl rfl rfl rfl rfl ⟨.pointer none,.slice none 0 0,by rw[hp],aI,fun _=>rfl,fun h=>by rw[hp]at h;simp at h⟩
theorem afW(s:ByteArray)(w:World)(g:RG)(hs:s.size<=300)(hb:¬0<=p8 s)(hf:0<=jM s.size jU (fC s)):Calls prog 7 #[.string s] w (OQ w g s):=by
 have bm:¬(300:Int)<(s.size:Int):=by omega
 have dA:(fC s).length<=s.size:=by have:=NS s (s.size+1) 0;unfold fC;omega
 have hp:uJ g s=(3,jM s.size jU (fC s)):=by unfold uJ;rw[if_neg (by omega),if_neg hb,if_pos hf]
 generalize sV:jM s.size jU (fC s)=f at*
 go_in
 go_wp2_with fail
 refine(TM s w (by omega)).mono ?_;rintro e w1 ⟨rfl,aI⟩;go_wp2_with fail;refine(abm s w1 hs dA).mono ?_;rintro e w2 ⟨rfl,aG⟩;rw[sV];go_wp2_with fail;exact ES (v2:=.pointer none) (v3:=.slice none 0 0) (x:=3) (y:=f) rfl rfl rfl rfl rfl ⟨.pointer none,.slice none 0 0,by rw[hp],aI.trans aG,fun _=>rfl,fun h=>by rw[hp]at h;simp at h⟩
theorem aoB(hs:s.size<=300)(hG:qx w lo b ao (fC s))(hg:BA g s)(Qc:(bP s).au=tS):
 bc (w.alloc (.cells #[.slice ao (fC s).length cap,.int .i64 0,.int .i64 0,.slice none 0 0,.int .i64 (-1),.int .i64 (-1),.int .i64 (-1)] 59)) ⟨w.heap.size,b,ao,cap,fC s⟩ g (bP s) 0 (.slice none 0 0) []:=by
 have qg:=hg.gd;have dA:(fC s).length<=s.size:=by have:=NS s (s.size+1) 0;unfold fC;omega
 have hb:=ay.new w #[.slice ao (fC s).length cap,.int .i64 0,.int .i64 0,.slice none 0 0,.int .i64 (-1),.int .i64 (-1),.int .i64 (-1)] 59;refine{ae:=?_,gl:=(hG.kept ((I.refl aq w).alloc _) (fun _ h=>h)).low,ne:=fun hl=>?_,bl:=fun hl=>(hG.isSome hl).2.2,rs:=qg.rs,ps:=qg.ps,len:=by simp only;omega,next:=Aw _,names:=At _ _ _ _,l8:=?_,aC:=Aa _,kO:=⟨Da _,by simp[bP]⟩,pr:=fun i=>?_,mj:=?_}
 ·rw[Qc];exact hb
 ·have:=(hG.isSome hl).2.2;simp only;omega
 ·exact⟨rfl,fun x _=>rfl,fun p hp=>by simp[bP]at hp,fun _ x i _=>by simp[bP]⟩
 ·rw[hg.ps,List.getD];by_cases h:i<(fC s).length
  ·rw[Au (by simpa using h)];have:=(R0 s _ _ _ (Ay h)).1;simp[Ab h];omega
  ·rw[Be (by simp;omega)]
   cases hd:i-((fC s).map (fun p=>(p.1:Int))).length with
   |zero=>simp;omega
   |succ m=>simp
 ·rw[Qc];exact⟨fun p h=>by simp[tS]at h,fun p h=>by simp[tS]at h,fun p h=>by simp[tS]at h⟩
theorem apn(hg:BA g s)(hf:¬0<=jM s.size jU (fC s)):(dw g (bP s)).1.au.form=none/\dw g (bP s)=aE g (g.rs.length+1) (bP s):=by
 have h1:=abl hg.gd (bP s) rfl (K4 s).2.2.1
 have h2:ml s.size jU (fC s)=none:=by
  cases h:ml s.size jU (fC s)with
  |none=>rfl
  |some q=>
   have:=Ux (by omega) _ _ q h;rw[Pq,h]at hf;exact absurd this hf
 rw[h2]at h1;refine⟨h1,?_⟩;unfold dw at h1⊢;split
 ·rfl
 ·rename_i he
  rw[if_neg he]at h1;exact absurd h1 (ET g _)
theorem amw(hs:s.size<=300)(hb:¬0<=p8 s)(hf:¬0<=jM s.size jU (fC s)):uJ g s=pick (ix g s):=by
 unfold uJ;rw[if_neg (by omega),if_neg hb,if_neg hf]
theorem af0(s:ByteArray)(w:World)(g:RG)(hg:BA g s)(hs:s.size<=300)(hb:¬0<=p8 s)(hf:¬0<=jM s.size jU (fC s)):Calls prog 7 #[.string s] w (OQ w g s):=by
 have bm:¬(300:Int)<(s.size:Int):=by omega
 have dA:(fC s).length<=s.size:=by have:=NS s (s.size+1) 0;unfold fC;omega
 have hp:=amw (g:=g) hs hb hf;obtain⟨vi,acB⟩:=apn hg hf
 have acf:(bP s).au.dd=none:=by
  cases h:(bP s).au.dd with
  |none=>rfl
  |some p=>have:=(K4 s).1 p h;omega
 have Qc:=((K4 s).2.1 acf).2;have qP:=aev (g:=g) (bP s);have DN:(dw g (bP s)).1.au.dd=none:=qP.1.trans acf;have LW:(dw g (bP s)).1.au.rF=none:=qP.2.trans (K4 s).2.2.2;have halt:=ZX g (g.rs.length+1);have yi:ix g s=if 1000<(dw g (bP s)).2.size then(dw g (bP s)).1.au.bG 7 0 else(dw g (bP s)).1.au:=rfl
 generalize sV:jM s.size jU (fC s)=f at*
 generalize hX:dw g (bP s)=X at*
 have HX:Hid (aE g (g.rs.length+1) (bP s)=X):=acB.symm;clear acB qP;go_in;go_wp2_with fail;refine(TM s w (by omega)).mono ?_;rintro e w1 ⟨rfl,aI⟩;go_wp2_with fail;refine(abm s w1 hs dA).mono ?_;rintro e w2 ⟨rfl,aG⟩;rw[sV];go_wp2_with fail;refine(XQ s w2 (by omega)).mono ?_;rintro e w3 ⟨v,rfl,a8,aQ⟩;obtain⟨b,ao,cap,hv,hG⟩:=qx.of a8;rw[hv];clear a8 hv;have kE:=(aI.trans aG).trans aQ;go_wp2_with fail;have h4:=aoB (cap:=cap) hs hG hg Qc;have s3:=kE.size;refine(halt _ _ _ _ _ _ h4 (by show g.rs.length-0<_;omega) (by rw[HX.out];exact vi)).mono ?_;rw[HX.out];rintro e w5 ⟨b5,N6,nl5,rfl,h5,q2,q3,q4⟩
 have MY:I aq w w5:=((kE.alloc _).bY q3 (fun i hi he=>by
  rcases he with h|h
  ·simp only at h;omega
  ·simp[Value.ownBlock]at h))
 have c4:w5.cell? ⟨w3.heap.size,4,none⟩=some (.int .i64 (jR X.1.au.rep)):=h5.ae.cell 4;have c5:w5.cell? ⟨w3.heap.size,5,none⟩=some (.int .i64 (jR X.1.au.cls)):=h5.ae.cell 5;have c6:w5.cell? ⟨w3.heap.size,6,none⟩=some (.int .i64 (jR X.1.au.kX)):=h5.ae.cell 6;have c3:w5.cell? ⟨w3.heap.size,3,none⟩=some N6:=h5.ae.cell 3;have zD:=af1 q2 w5 (I.refl _ _);have hzr:=q2.size_range
 cases jm:X.1.au.rep with
 |some p=>
  have pB:=h5.mj.1 p jm;rw[jm,show jR (some p)=p from rfl]at c4
  have ku:pick (ix g s)=(4,p):=by
   rw[yi];split
   ·simp[pick,bu.bG,bu.get,LW,bu.put,DN,vi,jm]
   ·simp[pick,DN,vi,jm]
  clear yi h4 h5 q2 q3 zD halt;go_wp2_with fail;go_quiet (fail);go_wp2_with fail;exact ES (v2:=.pointer none) (v3:=.slice none 0 0) (x:=4) (y:=p) rfl rfl rfl rfl rfl ⟨.pointer none,.slice none 0 0,by rw[hp,ku],MY.drewN _,fun _=>rfl,fun h=>by rw[hp,ku]at h;simp at h⟩
 |none=>
  rw[jm,show jR none= -1 from rfl]at c4
  cases zw:X.1.au.cls with
  |some p=>
   have pB:=h5.mj.2.1 p zw;rw[zw,show jR (some p)=p from rfl]at c5
   have ku:pick (ix g s)=(5,p):=by
    rw[yi];split
    ·simp[pick,bu.bG,bu.get,LW,bu.put,DN,vi,jm,zw]
    ·simp[pick,DN,vi,jm,zw]
   clear yi h4 h5 q2 q3 zD halt;go_wp2_with fail;go_quiet (fail);go_wp2_with fail;exact ES (v2:=.pointer none) (v3:=.slice none 0 0) (x:=5) (y:=p) rfl rfl rfl rfl rfl ⟨.pointer none,.slice none 0 0,by rw[hp,ku],MY.drewN _,fun _=>rfl,fun h=>by rw[hp,ku]at h;simp at h⟩
  |none=>
   rw[zw,show jR none= -1 from rfl]at c5
   cases ui:X.1.au.kX with
   |some p=>
    have pB:=h5.mj.2.2 p ui;rw[ui,show jR (some p)=p from rfl]at c6
    have ku:pick (ix g s)=(6,p):=by
     rw[yi];split
     ·simp[pick,bu.bG,bu.get,LW,bu.put,DN,vi,jm,zw,ui]
     ·simp[pick,DN,vi,jm,zw,ui]
    clear yi h4 h5 q2 q3 zD halt;go_wp2_with fail;go_quiet (fail);go_wp2_with fail;exact ES (v2:=.pointer none) (v3:=.slice none 0 0) (x:=6) (y:=p) rfl rfl rfl rfl rfl ⟨.pointer none,.slice none 0 0,by rw[hp,ku],MY.drewN _,fun _=>rfl,fun h=>by rw[hp,ku]at h;simp at h⟩
   |none=>
    rw[ui,show jR none= -1 from rfl]at c6;by_cases Gi:1000<X.2.size
    ·have ku:pick (ix g s)=(7,0):=by
      rw[yi,if_pos Gi];simp[pick,bu.bG,bu.get,LW,bu.put,DN,vi,jm,zw,ui]
     clear yi h4 h5 q2 q3 halt;go_wp2_with fail;refine zD.mono ?_;rintro e w6 ⟨rfl,bU⟩;go_wp2_with fail;exact ES (v2:=.pointer none) (v3:=.slice none 0 0) (x:=7) (y:=0) rfl rfl rfl rfl rfl ⟨.pointer none,.slice none 0 0,by rw[hp,ku],MY.trans bU,fun _=>rfl,fun h=>by rw[hp,ku]at h;simp at h⟩
    ·have ku:pick (ix g s)=(0,0):=by
      rw[yi,if_neg Gi];simp[pick,LW,DN,vi,jm,zw,ui]
     have apV:¬1000<X.2.size:=Gi;have dS:=h5.names;have hrel:=h5.l8;simp only at dS;go_wp2_with fail;refine zD.mono ?_;rintro e w6 ⟨rfl,bU⟩;have c63:w6.cell? ⟨w3.heap.size,3,none⟩=some N6:=(h5.ae.kept bU (fun h=>h)).cell 3;have ajI:=dh dS bU (fun _ _ h=>h);have q6:=(q2.kept bU (fun _ _ h=>h)).np (U':=Fr (w3.heap.size+1) w6.heap.size N6) (fun i hi ar=>⟨by have:=hi.1;rw[cR]at this;exact this,ar,hi.2.2⟩);have Q6:=(fun m=>q6.kept ((I.refl aq w6).drewN m) (fun _ _ h=>h));clear q6;clear yi h4 h5 q2 q3 halt zD;go_wp2_with fail;go_quiet (fail);go_wp2_with fail;refine ES (v2:=.pointer (some ⟨b5,0,none⟩)) (v3:=N6) (x:=0) (y:=0) rfl rfl rfl rfl rfl ⟨.pointer (some ⟨b5,0,none⟩),N6,by rw[hp,ku],(MY.trans bU).drewN _,fun h=>absurd (by rw[hp,ku]) h,fun _=>⟨nl5,w3.heap.size+1,b5,by omega,dh ajI ((I.refl aq _).drewN _) (fun _ _ h=>h),?_,rfl,?_⟩⟩
     ·rw[hX];exact hrel
     ·rw[hX];exact Q6 _
theorem afZ(s:ByteArray)(w:World)(g:RG)(hg:BA g s)(hs:s.size<=300):Calls prog 7 #[.string s] w (OQ w g s):=by
 by_cases hb:0<=p8 s
 ·exact afY s w g hs hb
 ·by_cases hf:0<=jM s.size jU (fC s)
  ·exact afW s w g hs hb hf
  ·exact af0 s w g hg hs hb hf
theorem aeQ(s:ByteArray):∀(m k pos:Nat),s.size-pos<=m->m<=k->dK s k pos=dK s m pos
 |0,0,pos,_,_=>rfl
 |0,k+1,pos,h,_=>by
  unfold dK;rw[if_neg (by omega)]
 |m+1,0,pos,_,h=>by omega
 |m+1,k+1,pos,h,hk=>by
  unfold dK;split
  ·rename_i ar
   have hw:=(CG s pos ar).1;rw[aeQ s m k _ (by omega) (by omega)]
  ·rfl
theorem aeR(s:ByteArray):fC s=aW s:=aeQ s s.size (s.size+1) 0 (by omega) (by omega)
theorem Uh{p:Nat}:∀(d j:Nat),j=p+d->j<=n+1->(∀i,p<=i->i<j->T i=none)->gT T n p told=gT T n j told
 |0,j,e,_,_=>by rw[e];rfl
 |d+1,j,e,hj,h=>by
  rw[Uh d (p+d) rfl (by omega) (fun i a b=>h i a (by omega)),aa4 (by omega) (h (p+d) (by omega) (by omega)),e];rfl
def vN(s:ByteArray)(q:Ev×Value):List Value:=[.int .i64 (bd s q.1.a:Int),.int .i64 (bd s q.1.b:Int),q.2,.string (s.extract (bd s q.1.a) (bd s q.1.b))]
def NN(s:ByteArray)(l:List (Ev×Value)):List Value:=l.flatMap (vN s)
theorem ang(s:ByteArray)(l:List (Ev×Value))(q:Ev×Value):NN s (l++[q])=NN s l++vN s q:=by unfold NN;simp
def tJ(w:World)(G:GH)(v:Value)(xs:List Int):Prop:=∃ao gb cap,v=.slice ao xs.length cap/\fL w ao gb xs/\(xs≠ []->¬G.mu gb)
structure pX(w:World)(G:GH)(base:Nat)(v:Value)(s:ByteArray)(l:List (Ev×Value)):Prop where
 aN:w.ownsRow base 72 4 v l.length (NN s l)
 vG:∀k,v.ownBlock=some k->¬G.mu k
 bK:∀q∈l,tJ w G q.2 q.1.gs
theorem tJ.call(h:tJ w G v xs)(k:I G.mu w w')(he:ef w G G'):tJ w' G' v xs:=by
 obtain⟨ao,gb,cap,h1,h2,h3⟩:=h;exact⟨ao,gb,cap,h1,h2.kept k h3,fun aF q=>h3 aF ((he.mu (h2.ig aF).2).1 q)⟩
theorem tJ.kept(h:tJ w G v xs)(k:I X w w')(hX:∀gb aU,X gb->¬ay w gb aU 3):tJ w' G v xs:=by
 obtain⟨ao,gb,cap,h1,h2,h3⟩:=h;refine⟨ao,gb,cap,h1,h2.kept k (fun aF q=>?_),h3⟩;obtain⟨aU,hB⟩:=h2.ty aF;exact hX gb aU q hB
theorem pX.call(h:pX w G base v s l)(k:I G.mu w w')(he:ef w G G'):pX w' G' base v s l:=
 ⟨dh h.aN k h.vG,fun b hb q=>h.vG b hb ((he.mu (cA h.aN hb).2).1 q),fun q hq=>(h.bK q hq).call k he⟩
theorem pX.quiet(h:pX w G base v s l)(k:I aq w w'):pX w' G base v s l:=
 ⟨dh h.aN k (fun _ _ q=>q),h.vG,fun q hq=>(h.bK q hq).kept k (fun _ _ q=>q.elim)⟩
theorem pX.lg{w7:World}{v':Value}{q:Ev×Value}(h:pX w G base v s l)(ar:∀k,G.mu k->k<w.heap.size)(kW:I aq w W)(hq:tJ w G q.2 q.1.gs)(a8:w7.ownsRow base 72 4 v' (l.length+1) (NN s l++vN s q))(hg:W.grownBy w7 v.ownBlock)(hl:v'.ownBlock=v.ownBlock\/v'.ownBlock=some W.heap.size):
 pX w7 G base v' s (l++[q])/\I (fun k=>v.ownBlock=some k) w w7:=by
 have k7:I (fun k=>v.ownBlock=some k) w w7:=(kW.mono (fun _ q=>q.elim)).bY ((I.refl (fun k=>v.ownBlock=some k) W).dn hg (fun j hj=>Or.inl hj)) (fun _ _ q=>q)
 have hX:∀gb aU,v.ownBlock=some gb->¬ay w gb aU 3:=fun gb aU hb hB=>by
  rcases h.aN.2 with⟨e,_⟩|⟨g,cap,cu,e,a1,a2,_⟩
  ·rw[e]at hb;simp[Value.ownBlock]at hb
  ·rw[e]at hb;simp[Value.ownBlock]at hb;subst hb;have:w.heap[g]? =some (.cells aU 3 (0,0)):=hB;rw[a2]at this;simp at this
 refine⟨⟨by rw[Ao,ang];exact a8,fun k hk q=>?_,fun r hr=>?_⟩,k7⟩
 ·rcases hl with e|e
  ·exact h.vG k (e▸hk) q
  ·rw[e]at hk;simp at hk;have:=ar k q;have:=kW.size;omega
 ·rcases A2.1 hr with hr|hr
  ·exact(h.bK r hr).kept k7 hX
  ·simp at hr
   subst hr;exact hq.kept k7 hX
structure sD(w wr:World)(G:GH)(E:EG)(pb:Nat)(R:RT)(ag:Option Addr)(gn cg:Nat):Prop where
 aV:du wr G E
 whole:G.T pb=some [bo R]
 new:∀k,G.mu k->w.heap.size<=k
 kept:I aq w wr
 none:fL wr ag gn (List.replicate (3*E.K) (-1))
 vG:List.replicate (3*E.K) (-1:Int)≠ []->¬G.mu gn
 cap:3*E.K<=cg
theorem sD.arg(h:sD w wr G E pb R ag gn cg)(bC:R.ok E.K)(hd:R.dp<=E.D)(hD:E.D<=5000)(hK:E.K<=300)(hi:i<=E.x.l.length):ee wr G E [bo R] i (List.replicate (3*E.K) (-1)) [] (.pointer (some ⟨pb,0,Option.none⟩)) ag gn cg Option.none 0 0 where
 aV:=h.aV
 st:=Or.inr ⟨pb,rfl,h.whole⟩
 ok:=fun c hc=>by
  obtain⟨c',S',_,_,_,_,e,h1,_,_⟩:=h.aV.ct pb _ h.whole;exact h1 c hc
 deep:=by
  obtain⟨c',S',_,_,_,_,e,_,h2,_⟩:=h.aV.ct pb _ h.whole;exact h2
 il:=hi
 sB:=⟨(fun t ht=>by cases ht),List.Pairwise.nil⟩
 qu:=rfl
 vS:=Aw _
 rg:=h.none
 gl:=by simp
 gc:=by simp;exact h.cap
 gm:=h.vG
 rt:=fL.nil wr
 tm:=fun h=>absurd rfl h
 pQ:=Aa _
 tz:=fun _=>rfl
 dl:=hD
 kl:=hK
theorem sD.call(h:sD w wr G E pb R ag gn cg)(hI:du w' G' E)(he:ef wr G G')(hk:I G.mu wr w'):sD w w' G' E pb R ag gn cg where
 aV:=hI
 whole:=by rw[(he pb (h.aV.lt pb (Or.inl (by rw[h.whole];simp)))).1];exact h.whole
 new:=fun k hm=>by
  by_cases ar:k<wr.heap.size
  ·exact h.new k ((he.mu ar).1 hm)
  ·have:=h.kept.size;omega
 kept:=h.kept.bY hk (fun i hi hm=>by have:=h.new i hm;omega)
 none:=h.none.kept hk h.vG
 vG:=fun aF q=>h.vG aF ((he.mu (h.none.ig aF).2).1 q)
 cap:=h.cap
theorem sD.quiet(h:sD w wr G E pb R ag gn cg)(hk:I X wr w')(hX:∀k,X k->w.heap.size<=k)(yc:∀k,X k->¬G.mu k)(hXu:∀k,X k->¬E.U k)(hXx:¬X E.xb/\(E.x.l≠ []->¬X E.bl))(hXn:∀gb aU,X gb->¬ay wr gb aU 3)(hXt:∀tb aU,X tb->¬ay wr tb aU 66):sD w w' G E pb R ag gn cg where
 aV:=by
  refine⟨fun b S hb=>?_,fun k hm=>A3 (h.aV.lt k hm) hk.size,h.aV.po,h.aV.um,fun k hu=>A3 (h.aV.ul k hu) hk.size,h.aV.tx.kept hk hXx.1 hXx.2,h.aV.sC⟩;obtain⟨c,S',vn,vm,vt,dQ,e,h1,h2,h3⟩:=h.aV.ct b S hb;refine⟨c,S',vn,vm,vt,dQ,e,h1,h2,⟨h3.ae.kept hk (fun q=>yc b q (Or.inl (by rw[hb];simp))),h3.node.kept hk (fun i hi q=>hXu i q hi),h3.more,?_,h3.no.ext (ef.refl wr G) rfl h.aV.lt hk (fun j i hj q=>yc j q (Or.inr (by rw[hj];simp)))⟩⟩;rcases h3.next with q|⟨n,tb,cap,zs,q1,q2,q3⟩
  ·exact Or.inl q
  ·refine Or.inr ⟨n,tb,cap,zs,q1,q2,⟨q3.pos,q3.cB,A3 q3.lt hk.size,q3.mu,q3.len,fun k dL=>?_,q3.st,?_⟩⟩
   ·obtain⟨aU,hB⟩:=q3.ty;rw[hk.cell (p:=⟨tb,k,Option.none⟩) q3.lt (fun q=>hXt tb aU q hB)];exact q3.cell k dL
   ·obtain⟨aU,hB⟩:=q3.ty;exact⟨aU,hB.kept hk (fun q=>hXt tb aU q hB)⟩
 whole:=h.whole
 new:=h.new
 kept:=h.kept.bY hk (fun i hi q=>by have:=hX i q;omega)
 none:=by
  refine h.none.kept hk (fun aF q=>?_);obtain⟨aU,hB⟩:=h.none.ty aF;exact hXn gn aU q hB
 vG:=h.vG
 cap:=h.cap
theorem ae7(s:ByteArray)(a b:Nat)(h:a<=b)(hb:b<=s.size)(wx:World):(Instr.slice 9 (.string s) (some (.int .i64 (a:Int))) (some (.int .i64 (b:Int))) none).run prog wx=.ok (.string (s.extract a b)) wx:=by
 have:=run_slice_string (P:=prog) wx 9 s .i64 .i64 (a:Int) (b:Int) underlying9 (by omega) (by omega) (by omega);rw[this];congr 3
theorem anR(ao:Option Addr)(n m c:Nat)(h:m<=n)(h2:n<=c)(W:World):(Instr.slice 65 (.slice ao n c) none (some (.int .i64 (m:Int))) none).run prog W=.ok (.slice ao m c) W:=by
 cases ao with
 |none=>
  go_simp;intro hx;omega
 |some a=>
  go_simp;intro hx;omega
def lastOf(s:ByteArray)(told:Option Nat):Int:=match told with
 |none=> -1
 |some e=>(bd s e:Int)
theorem akA(ht:∀e,told=some e->e<=(aW s).length)(hi:i<=(aW s).length):((bd s i:Int)==lastOf s told)=decide (told=some i):=by
 cases told with
 |none=>
  simp[lastOf]
 |some e=>
  have he:=ht e rfl;rw[Av];simp[lastOf];constructor
  ·intro h;exact(O8 hi he (by omega)).symm
  ·intro h;subst h;rfl
theorem tJ.aiR{gs:List Int}(h:fL w ao gb gs)(hl:gs.length=3*K)(hm:gs≠ []->¬G.mu gb):tJ w G (.slice ao (2*K) cap) (gs.take (2*K)):=by
 have e:gs.take (2*K)++gs.drop (2*K)=gs:=Ek _ _;have dA:(gs.take (2*K)).length=2*K:=by rw[List.length_take];omega
 refine⟨ao,gb,cap,by rw[dA],fL.pfx (hs:=gs.drop (2*K)) (by rw[e];exact h),fun aF=>hm (fun e0=>aF (by rw[e0];simp))⟩
theorem akk{x:TX}(hU:∀k,U k->k<w.heap.size)(hx:wm w xb bl ao cap x):du w ⟨fun _=>none,fun _=>none,fun _ _=>[]⟩ ⟨U,x,xb,bl,ao,cap,5000,K⟩ where
 ct b S h:=by cases h
 lt k h:=by rcases h with h|h<;>exact absurd rfl h
 po k h:=rfl
 um k _ h:=by rcases h with h|h<;>exact absurd rfl h
 ul k h:=hU k h
 tx:=hx
 sC:=⟨fun h=>by rcases h with h|h<;>exact absurd rfl h,fun _ h=>by rcases h with h|h<;>exact absurd rfl h⟩
theorem alz(h:R.ok K):mg K [bo R]:=fun c hc=>by
 simp at hc
 subst hc;unfold CI.ok bo;refine⟨h,(fun q=>by cases q),fun ho=>?_⟩
 cases R with
 |node op sp nt fd ks bK bB aY lz=>
  have vx:op=ec:=ho;rw[RT.ok]at h;rcases h.2 with q|q|q|q|q|q|q
  ·rw[vx]at q;exact absurd q (by decide)
  ·rw[vx]at q;exact absurd q (by decide)
  ·rw[vx]at q;exact absurd q (by decide)
  ·rw[vx]at q;exact absurd q.1 (by decide)
  ·rw[vx]at q;exact absurd q.1 (by decide)
  ·rw[vx]at q;exact absurd q.1 (by decide)
  ·exact q.2.2
theorem pX.J3(h:pX w G base v s l)(hb:v.ownBlock=some gb):base<=gb/\∀aU t,t≠72->¬ay w gb aU t:=by
 rcases h.aN.2 with⟨e,_⟩|⟨g,cap,cu,e,a1,a2,_⟩
 ·rw[e]at hb;simp[Value.ownBlock]at hb
 ·rw[e]at hb;simp[Value.ownBlock]at hb;subst hb;refine⟨a1,fun aU t ht hB=>?_⟩;have h2:w.heap[g]? =some (.cells aU t (0,0)):=hB;rw[a2]at h2;simp at h2;exact ht h2.2.symm
structure afJ(w w4:World)(EV:World->GH->Prop)(s:ByteArray)(n K xb pb:Nat)(ao:Option Addr)(cap:Nat)(ag:Option Addr)(cg:Nat)(T:Nat->gN):Prop where
 quiet:∀wi G w',EV wi G->I aq wi w'->EV w' G
 dn:∀wi G w' v l,EV wi G->pX wi G w4.heap.size v s l->I (fun k=>v.ownBlock=some k) wi w'->EV w' G
 len:∀wi G,EV wi G->wi.cell? ⟨xb,0,none⟩=some (.slice ao n cap)
 kept:∀wi G,EV wi G->I aq w wi
 lt:∀wi G,EV wi G->∀k,G.mu k->k<wi.heap.size
 size:∀wi G,EV wi G->w4.heap.size<=wi.heap.size
 eX:∀wi G (i:Nat),EV wi G->Calls prog 21 #[.pointer (some ⟨xb,0,none⟩),.int .i64 (i:Int)] wi fun e w'=>e=.returned (.int .i64 (bd s i:Int))/\I aq wi w'
 first:∀wi G (j:Nat),j<=n->EV wi G->Calls prog 20 #[.pointer (some ⟨xb,0,none⟩),.pointer (some ⟨pb,0,none⟩),.int .i64 (j:Int),.slice ag (3*K) cg,.slice none 0 0] wi fun e w'=>∃G',EV w' G'/\ef wi G G'/\I G.mu wi w'/\
  ((T j=none/\e=.returned (.tuple #[.int .i64 0,.slice none 0 0,.bool false]))\/∃(k:Nat) (gs:List Int) (fU:Option Addr) (fM:Nat),T j=some (k,gs)/\e=.returned (.tuple #[.int .i64 (k:Int),.slice fU (3*K) fM,.bool true])/\3*K<=fM/\tJ w' G' (.slice fU (2*K) fM) gs)
theorem sD.env{w4:World}{G1:GH}(hU:∀k,U k->k<w.heap.size)(hn:(aW s).length=n)(bC:R.ok K)(hd:R.dp<=5000)(hK:K<=300)
 (hT:∀i,i<=n->∀r,cV (cG s) [bo R] i (List.replicate (3*K) (-1)) [] r->T i=r.map fun v=>(v.1,v.2.take (2*K)))(h4:sD w w4 G1 ⟨U,cG s,xb,bl,ao,cap,5000,K⟩ pb R ag gn cg)(Wi:xb<w4.heap.size)(gj:aW s≠ []->bl<w4.heap.size):
 afJ w w4 (fun wi G=>sD w wi G ⟨U,cG s,xb,bl,ao,cap,5000,K⟩ pb R ag gn cg/\w4.heap.size<=wi.heap.size) s n K xb pb ao cap ag cg T where
 quiet wi G w' h k:=⟨h.1.call (h.1.aV.kept k) (ef.refl wi G) (k.mono (fun _ q=>q.elim)),Bf h.2 k.size⟩
 dn wi G w' v l h hR k:=by
  have MJ:=h4.kept.size;refine⟨h.1.quiet k (fun i hi=>by have:=(hR.J3 hi).1;omega) hR.vG (fun i hi hu=>?_) ⟨fun hi=>?_,fun hl hi=>?_⟩ (fun gb aU hi=>(hR.J3 hi).2 aU _ (by decide)) (fun tb aU hi=>(hR.J3 hi).2 aU _ (by decide)),Bf h.2 k.size⟩
  ·have h1:=(hR.J3 hi).1;have h2:=hU i hu;omega
  ·have h1:=(hR.J3 hi).1;have h2:xb<w4.heap.size:=Wi;have h3:w4.heap.size<=xb:=h1;omega
  ·have h1:=(hR.J3 hi).1;have h2:bl<w4.heap.size:=gj hl;have h3:w4.heap.size<=bl:=h1;omega
 len wi G h:=by
  have:=h.1.aV.tx.ae.cell 0;rw[<-hn];exact this
 kept wi G h:=h.1.kept
 lt wi G h:=h.1.aV.lt
 size wi G h:=h.2
 eX wi G i h:=by
  have:=agO h.1.aV.tx i;rw[Ip]at this;exact this
 first wi G j hj h:=by
  have hA:=h.1.arg bC hd (Aa _) hK (i:=j) (by show j<=(aW s).length;omega);have hB:=aif ⟨U,cG s,xb,bl,ao,cap,5000,K⟩ _ j rfl (wS j [bo R] []+1) wi G [bo R] j _ [] _ ag gn cg Option.none 0 0 hA (Or.inr ⟨rfl,Nat.lt_succ_self _⟩);have e3:(List.replicate (3*K) (-1:Int)).length=3*K:=by simp
  rw[e3]at hB;refine hB.mono ?_;rintro e w' ⟨G',r,q1,q2,q3,q4,q5⟩;have hE:=h.1.call q2 q3.jt q4.kept;have hTj:=hT j hj r q1;refine⟨G',⟨hE,Bf h.2 q4.kept.size⟩,q3.jt,q4.kept,?_⟩
  cases r with
  |none=>exact Or.inl ⟨hTj,q5⟩
  |some p=>
   obtain⟨fU,gb,fM,rfl,r2,r3,r4,r5,r6⟩:=q5;rw[e3]at r3;rw[r3]at r4;exact Or.inr ⟨p.1,p.2.take (2*K),fU,fM,hTj,by rw[r3],r4,tJ.aiR r2 r3 r5⟩
theorem aeM(s:ByteArray)(q:Ev×Value)(h:q.2.oneCell'=true):∀u∈vN s q,u.oneCell'=true:=by
 intro u hu;unfold vN at hu;simp at hu;rcases hu with rfl|rfl|rfl|rfl
 ·rfl
 ·rfl
 ·exact h
 ·rfl
theorem am9(j:Nat):(List.replicate (j+1) (-1:Int)).map (Value.int .i64)=(List.replicate j (-1:Int)).map (Value.int .i64)++[.int .i64 (-1)]:=by
 rw[List.replicate_succ',Cv];rfl
theorem ah9{nb:Nat}{Tp:PT}(hU:∀k,U k->k<w.heap.size)(dM:eV w U nb Tp (vM (f_ p) (bP p)))(hp:p.size<=300)(he:kZ p=0)(hs:s.size<=200):
 Calls prog 9 #[.pointer (some ⟨nb,0,none⟩),.int .i64 (gk p:Int),.string s] w fun e w'=>∃G base v l,e=.returned v/\pX w' G base v s l/\l.map (·.1)=wC p s/\I aq w w':=by
 obtain⟨i0,b_,cE,cI,cH⟩:=A7 Tryz.zL;obtain⟨ie,uf,QH,QE,P6⟩:=A7 Tryz.acM;have qy:=ai (ani hp he);have On:=ai (ahX hp);have hK:=aew hp;have hn:=RW s;have Td:Hid (∀q∈ (cG s).l,0<=q.2/\q.2<=1114111):=fun q hq=>R2 s s.size 0 q hq
 have Kz:Hid (∀i,i<=(aW s).length->∀r,cV (cG s) [bo (vM (f_ p) (bP p))] i (List.replicate (3*gk p) (-1)) [] r->AS (pJ p) (gk p) (cG s) i=r.map fun v=>(v.1,v.2.take (2*gk p))):=fun i hi r hr=>aoQ hp he Td.out hi hr
 have H4:=ai (Yc (NF hp he).2.2.1 s);have SQ:Hid (wC p s=gT (AS (pJ p) (gk p) (cG s)) (aW s).length 0 none):=(rfl:_=_);obtain⟨R,HR⟩:∃R,Hid (vM (f_ p) (bP p)=R):=⟨_,(rfl:_=_)⟩
 obtain⟨T,HT⟩:∃T,Hid (AS (pJ p) (gk p) (cG s)=T):=⟨_,(rfl:_=_)⟩
 rw[HR.out]at qy On Kz dM;rw[HT.out]at H4 SQ;simp only[HT.out]at Kz;generalize gk p=K at*;obtain⟨n,HN⟩:∃n,Hid ((aW s).length=n):=⟨_,(rfl:_=_)⟩
 rw[HN.out]at hn H4 SQ;simp only[HN.out]at Kz;have Y6:=ai dM;have HU:=ai hU;clear dM hU he hp;have F:=ai (XQ s w (by omega));go_in;go_wp2_with fail;refine(F.out).mono ?_;rintro e w1 ⟨v,rfl,a8,k1⟩;clear F;obtain⟨bl,ao,cap,rfl,jz⟩:=qx.of a8;rw[aeR]at jz;rw[aeR,HN.out];have abV:qx w1 w.heap.size bl ao (aW s):=jz;have K2:Hid (I aq w (w1.alloc (.cells #[.slice ao n cap,.int .i64 (s.size:Int)] 64))):=k1.alloc _
 have TX:Hid (wm (w1.alloc (.cells #[.slice ao n cap,.int .i64 (s.size:Int)] 64)) w1.heap.size bl ao cap (cG s)):=by
  have hB:=ay.new w1 #[.slice ao n cap,.int .i64 (s.size:Int)] 64;refine⟨?_,(abV.kept ((I.refl aq w1).alloc _) (fun _ q=>q)).low,?_,fun q hq=>?_⟩
  ·show ay _ _ #[.slice ao (aW s).length cap,.int .i64 (s.size:Int)] _
   rw[HN.out];exact hB
  ·show(aW s).length<=200
   rw[HN.out];omega
  ·have:=Td.out q hq;omega
 have DR:=k1.size;clear a8 jz abV k1;go_wp2_with fail;generalize w1.alloc (.cells #[.slice ao n cap,.int .i64 (s.size:Int)] 64)=w2 at*;go_loopg [8,9] (3*K) (fun kk v i wr=>∃j:Nat,i=.int .i64 j/\j<=3*K/\kk=3*K-j/\(∃ao c,v=.slice ao j c)/\Hid (wr.ownsRow w2.heap.size 3 1 v j ((List.replicate j (-1)).map (Value.int .i64)))/\Hid (I aq w2 wr))
 case atStart=>exact⟨0,rfl,Aw _,rfl,⟨none,0,rfl⟩,At _ _ _ _,I.refl _ _⟩
 case round=>
  obtain⟨j,rfl,hj,rfl,⟨aj,cj,rfl⟩,HO,K3⟩:=hrel;by_cases ar:j<3*K
  ·have hJ:(j:Int)<3*(K:Int):=(by omega);have O1:=ai (HO.out.alloc (.cells #[.int .i64 (-1)] 3));have Jm:=K3.out.size;go_wp2_with (at_builtin;refine Ad _ rfl _ _ 65 rfl w2.heap.size 3 i0 _ 1 8 underlying65 b_ cE cI cH rfl (by decide) _ _ _ rfl O1.out ⟨wr.heap.size,0,none⟩ 1 1 [.int .i64 (-1)] rfl rfl (Cc wr (.int .i64 (-1)) 3) (QQ _) ?d3 ?d4 ?d5 ?_);try(case d3=>unfold maxLen;omega)
   try(case d4=>omega)
   try(case d5=>first|omega|(rw[cR];omega))
   intro v' w4 a8 aX cJ bH;obtain⟨a4,c4,rfl⟩:=dY a8
   have aO:Hid (w4.ownsRow w2.heap.size 3 1 (.slice a4 (j+1) c4) (j+1) ((List.replicate (j+1) (-1)).map (Value.int .i64))/\I aq w2 w4):=by
    refine⟨by rw[am9,List.map_replicate];exact a8,?_⟩;exact(K3.out.alloc _).dn aX (fun k hk=>Or.inr (cA HO.out hk).1)
   clear a8 aX cJ bH;go_wp2_with fail;go_roundg (3*K-(j+1))
   case measure=>omega
   case rel=>exact⟨j+1,by go_num,by omega,rfl,⟨a4,c4,rfl⟩,aO.out.1,aO.out.2⟩
  ·have Qi:j=3*K:=(by omega);subst Qi;have hJ:¬(((3*K:Nat):Int)<3*(K:Int)):=(by omega);clear ar hj;obtain⟨ag,cg,gn,hv,dS,hgn⟩:=fL.of (gs:=List.replicate (3*K) (-1)) (by simpa using HO.out)
   have Vc:3*K<=cj:=by
    rcases HO.out.2 with⟨e,h0⟩|⟨g,cap,aU,e,a1,a2,a3,_⟩
    ·omega
    ·simp at e
     omega
   have tf:aj=ag/\cj=cg:=(by simpa using hv);obtain⟨rfl,rfl⟩:=tf;clear hv;have lV:I aq w wr:=K2.out.trans K3.out;have OR:wm wr w1.heap.size bl ao cap (cG s):=TX.out.kept K3.out (fun q=>q) (fun _ q=>q);have I0:=akk (K:=K) (fun k hk=>A3 (HU.out k hk) lV.size) OR;have P:=ai (JL I0 (S:=[]) (vm:=.pointer none) (Y6.out.kept lV (fun _ _ q=>q)) (Or.inl ⟨rfl,rfl⟩) (alz qy.out) ⟨by show R.dp+0<=5000;have:=On.out;omega,trivial⟩ wr (I.refl _ _));have aqY:w1.heap.size<wr.heap.size:=OR.ae.lt;have abK:aW s≠ []->bl<wr.heap.size:=(fun h=>(OR.gl.isSome h).2.2);have qA:=ai dS;have SV:=ai lV;have o9:=ai abK;clear I0 OR dS lV TX K2 K3 HO abK hJ;go_wp2_with fail;refine(P.out).mono ?_;rintro e w4 ⟨G1,pb,rfl,hT1,eC,iM,iO⟩
   have UQ:sD w w4 G1 ⟨U,cG s,w1.heap.size,bl,ao,cap,5000,K⟩ pb R aj gn cj:=⟨eC,hT1,fun k hm=>by
    by_cases ar:k<wr.heap.size
    ·rcases(iM.mu ar).1 hm with q|q<;>exact absurd rfl q
    ·have:=SV.out.size;omega,SV.out.trans iO,qA.out.kept iO (fun _ q=>q),fun aF hm=>by
    rcases(iM.mu (qA.out.ig aF).2).1 hm with q|q<;>exact absurd rfl q,Vc⟩
   have hsw:=iO.size;have SD:=sD.env (T:=T) HU.out HN.out qy.out On.out hK Kz.out UQ (by omega) (fun h=>by have:=o9.out h;omega);obtain⟨EV,SO⟩:∃EV:World->GH->Prop,EV=fun wi G=>sD w wi G ⟨U,cG s,w1.heap.size,bl,ao,cap,5000,K⟩ pb R aj gn cj/\w4.heap.size<=wi.heap.size:=⟨_,rfl⟩
   rw[<-SO]at SD;have abB:EV w4 G1:=by rw[SO];exact⟨UQ,Aa _⟩
   clear SO;have me:=ai SD;have EV0:=ai abB;clear P UQ eC iM hT1 iO SD abB qA SV o9 HU Y6 qy On Kz Td hsw;go_wp2_with fail;go_loopg [11,12,13] (n+2) (fun kk v lv pv wr=>∃(pp:Nat) (told:Option Nat) (l:List (Ev×Value)) (G:GH),pv=.int .i64 pp/\pp<=n+1/\kk=n+2-pp/\(∃ao c,v=.slice ao l.length c)/\lv=.int .i64 (lastOf s told)/\(∀e,told=some e->e<=n)/\Hid (l.map (·.1)++gT T n pp told=wC p s)/\l.length<=pp/\Hid (pX wr G w4.heap.size v s l)/\Hid (EV wr G))
   case atStart=>exact⟨0,none,[],G1,rfl,Aw _,rfl,⟨none,0,rfl⟩,rfl,(fun e h=>by cases h),SQ.out.symm,Aa _,⟨At _ _ _ _,(fun k hk=>by simp[Value.ownBlock]at hk),(fun q hq=>by cases hq)⟩,EV0.out⟩
   case round=>
    obtain⟨pp,told,l,G,rfl,My,rfl,⟨av,cv,rfl⟩,rfl,acr,HL,rR,Tc,Oo⟩:=hrel;have c0:=me.out.len _ _ Oo.out;have Zn:=ai acr;clear acr;by_cases iD:pp<=n
    ·have hP:(pp:Int)<=(n:Int):=(by omega);obtain⟨lo,S8⟩:∃lo,Hid (lastOf s told=lo):=⟨_,(rfl:_=_)⟩
     rw[S8.out];go_wp2_with fail;go_loopg [14,15,16,17] (n+2-pp) (fun kk fv ev gv okv wi=>∃(j:Nat) (G':GH),fv=.int .i64 j/\pp<=j/\j<=n+1/\kk=n+2-j/\Hid (pX wi G' w4.heap.size (.slice av l.length cv) s l)/\Hid (EV wi G')/\((okv=.bool false/\ev=.int .i64 0/\gv=.slice none 0 0/\Hid (∀i,pp<=i->i<j->T i=none))\/∃(k:Nat) (gs:List Int) (fU:Option Addr) (fM:Nat),okv=.bool true/\ev=.int .i64 k/\gv=.slice fU (3*K) fM/\3*K<=fM/\pp+1<=j/\Hid (T (j-1)=some (k,gs))/\Hid (∀i,pp<=i->i<j-1->T i=none)/\Hid (tJ wi G' (.slice fU (2*K) fM) gs)))
     case atStart=>exact⟨pp,G,rfl,Aa _,by omega,rfl,Tc.out,Oo.out,Or.inl ⟨rfl,rfl,rfl,fun i a b=>absurd b (by omega)⟩⟩
     case round=>
      obtain⟨j,G',rfl,hpj,vq,rfl,OF,Kn,ai6⟩:=hrel;have c02:=me.out.len _ _ Kn.out;clear Tc Oo c0;rcases ai6 with⟨rfl,rfl,rfl,xG⟩|⟨k,gs,fU,fM,rfl,rfl,rfl,P8,vo,OH,xG,Ov⟩
      ·by_cases aji:j<=n
       ·have hJ:(j:Int)<=(n:Int):=(by omega);have F:=ai (me.out.first _ _ j aji Kn.out);go_wp2_with fail;refine(F.out).mono ?_;rintro e' w6 ⟨G6,abC,hx6,bU,CW⟩;have ZE:=ai (OF.out.call bU hx6);have Yx:=ai abC;clear F abC hx6 bU;rcases CW with⟨LN,rfl⟩|⟨k,gs,fU,fM,LN,rfl,P8,hgv⟩
        ·have H7:Hid (∀i,pp<=i->i<j+1->T i=none):=fun i a b=>by
          by_cases mx:i=j
          ·subst mx;exact LN
          ·exact xG.out i a (by omega)
         clear LN;go_wp2_with fail;go_roundg (n+2-(j+1))
         case measure=>omega
         case rel=>exact⟨j+1,G6,by go_num,by omega,by omega,rfl,ZE.out,Yx.out,Or.inl ⟨rfl,rfl,rfl,H7.out⟩⟩
        ·have OH:Hid (T (j+1-1)=some (k,gs)):=LN;have Ov:=ai hgv;clear LN hgv;go_wp2_with fail;go_roundg (n+2-(j+1))
         case measure=>omega
         case rel=>exact⟨j+1,G6,by go_num,by omega,by omega,rfl,ZE.out,Yx.out,Or.inr ⟨k,gs,fU,fM,rfl,rfl,rfl,P8,by omega,OH.out,xG.out,Ov.out⟩⟩
       ·have hJ:¬((j:Int)<=(n:Int)):=(by omega);have hj:j=n+1:=by omega
        have aO:Hid (l.map (·.1)=wC p s):=by
         have h:=HL.out;rw[Uh (j-pp) j (by omega) (by omega) xG.out,Uf (by omega),C8]at h;exact h
        go_wp2_with fail
        go_ret
        exact⟨G',_,_,rfl,l,OF.out,aO.out,me.out.kept _ _ Kn.out⟩
      ·obtain⟨i,rfl⟩:∃i,j=i+1:=⟨j-1,by omega⟩
       have Ti:Hid (T i=some (k,gs)):=OH.out;have H7:Hid (∀q,pp<=q->q<i->T q=none):=xG.out;have abT:=H4.out i k gs (by omega) Ti.out;have Tg:=ai (aa5 (told:=told) H4.out (show i<=n by omega) Ti.out);have Tf:Hid (gT T n pp told=gT T n i told):=Uh (i-pp) i (by omega) (by omega) H7.out;have P9:((i+1:Nat):Int)=(i:Int)+1:=(by omega);rw[P9];have e2:((2*K:Nat):Int)=2*(K:Int):=(by omega);have lX:=(fun W=>anR fU (3*K) (2*K) fM (by omega) P8 W);rw[e2]at lX;have hss:=(fun W=>ae7 s (bd s i) (bd s k) (rD s abT.1) (jK s k) W);obtain⟨tx,Tj⟩:∃tx,Hid (s.extract (bd s i) (bd s k)=tx):=⟨_,(rfl:_=_)⟩
       simp only[Tj.out]at hss;have iP:=jK s i;have iW:=jK s k;have KL:=OF;have AY:=Kn;have Oh:=Ov;clear OH xG P9 e2 OF Kn Ov Ti H7;have cP:((i:Int)+1<=(n:Int))\/¬((i:Int)+1<=(n:Int)):=(by omega);by_cases hik:i<k
       ·have Qf:(i:Int)<(k:Int):=(by omega);have iU:Hid (gT T n i told=[(⟨i,k,gs⟩:Ev)]++gT T n k (some k)):=by have:=Tg.out;rw[if_neg (by omega)]at this;exact this
        have ap_:(i:Int)+1<=(n:Int):=(by omega);clear cP
        all_goals
         have F1:=ai (me.out.eX _ _ i AY.out);go_wp2_with fail;refine(F1.out).mono ?_;rintro e' w7 ⟨rfl,k7⟩;have Fx:=ai (KL.out.quiet k7);have yS:=ai (me.out.quiet _ _ _ AY.out k7);have Kf:=ai (Oh.out.kept k7 (fun _ _ q=>q.elim));have F2:=ai (me.out.eX _ _ k yS.out);clear F1 k7;go_wp2_with fail;refine(F2.out).mono ?_;rintro e' w8 ⟨rfl,k8⟩;have y8:=ai (Fx.out.quiet k8);have yT:=ai (me.out.quiet _ _ _ yS.out k8);have Kg:=ai (Kf.out.kept k8 (fun _ _ q=>q.elim));have KI:=ai y8.out.aN;have MD:=me.out.size _ _ yT.out;clear F2 k8 Fx yS Kf;go_wp2_with fail;refine pR (Ea (by kernel_rfl) (Dy (S:=fun _=>True) _ _ _ _ ?_));refine aB 0 87 (.slice av l.length cv) trivial ?_;refine aB 1 88 (.int .i64 (bd s i:Int)) trivial ?_;refine aB 2 89 (.int .i64 (bd s k:Int)) trivial ?_;refine aB 3 90 (.slice fU (3*K) fM) trivial ?_;refine aB 4 91 (.int .i64 (K:Int)) trivial ?_;refine jV 5 92 (.int .i64 (2*(K:Int))) rfl rfl (by kernel_rfl) (by kernel_rfl) (by kernel_rfl) (fun _ _ _ h=>h) (Or.inl ⟨by rfl,fun W _=>by go_simp<;>(rw[By];omega)⟩) trivial ?_;refine aB 6 93 (.slice fU (2*K) fM) trivial ?_;refine aB 7 94 (.string s) trivial ?_;refine aB 8 95 (.int .i64 (bd s i:Int)) trivial ?_;refine aB 9 96 (.int .i64 (bd s k:Int)) trivial ?_;refine aB 10 97 (.string tx) trivial ?_;refine aB 11 98 (.agg #[.int .i64 (bd s i:Int),.int .i64 (bd s k:Int),.slice fU (2*K) fM,.string tx]) trivial ?_;simp only[Act.put,Ac,Ak,Aj];refine Ax (rs:=[12]) (by kernel_rfl) (by simp) (An rfl (fun K' hK=>?_) As);go_simp;refine hK.out _ _ trivial (fun _=>?_);clear hK K';have kA:I aq w8 (w8.alloc (.cells #[.int .i64 (bd s i:Int),.int .i64 (bd s k:Int),.slice fU (2*K) fM,.string tx] 72)).drew:=((I.refl aq w8).alloc _).drew
         have NW:∀j u,(vN s (⟨i,k,gs⟩,.slice fU (2*K) fM))[j]? =some u->(w8.alloc (.cells #[.int .i64 (bd s i:Int),.int .i64 (bd s k:Int),.slice fU (2*K) fM,.string tx] 72)).drew.cell? (Addr.add ⟨w8.heap.size,0,none⟩ j)=some u:=fun j u hj=>by
          have hB:=(ay.new w8 #[.int .i64 (bd s i:Int),.int .i64 (bd s k:Int),.slice fU (2*K) fM,.string tx] 72).cell j;rw[Ij];show(w8.alloc (.cells #[.int .i64 (bd s i:Int),.int .i64 (bd s k:Int),.slice fU (2*K) fM,.string tx] 72)).cell? _=_
          rw[hB];unfold vN at hj;simp only[Tj.out]at hj;simpa using hj
         have KJ:=dh KI.out kA (fun _ _ q=>q);have QD:(w8.alloc (.cells #[.int .i64 (bd s i:Int),.int .i64 (bd s k:Int),.slice fU (2*K) fM,.string tx] 72)).drew.heap.size=w8.heap.size+1:=cR _ _;have KA:=ai kA;generalize(w8.alloc (.cells #[.int .i64 (bd s i:Int),.int .i64 (bd s k:Int),.slice fU (2*K) fM,.string tx] 72)).drew=wA at*;refine Ax (rs:=[13]) (by kernel_rfl) (by simp) (An rfl (fun K' hK=>?_) As);refine E6 rfl (.tmp 87) (.tmp 99) 22 rfl w4.heap.size 72 ie _ 4 56 underlying22 uf QH QE P6 rfl (by decide) _ _ _ rfl KJ ⟨w8.heap.size,0,none⟩ 1 1 (vN s (⟨i,k,gs⟩,.slice fU (2*K) fM)) rfl rfl NW (aeM s (⟨i,k,gs⟩,.slice fU (2*K) fM) rfl) (by unfold maxLen;omega) (by omega) (by omega) ?_;intro v' w9 yn Me Ml;obtain⟨FD,c9,rfl⟩:=dY yn;obtain⟨LL,k9⟩:=y8.out.lg (q:=(⟨i,k,gs⟩,.slice fU (2*K) fM)) (me.out.lt _ _ yT.out) KA.out Kg.out yn Me Ml;have Tr:=ai LL;have SE:=ai (me.out.dn _ _ _ _ _ yT.out y8.out k9);refine hK.out _ _ trivial (fun _=>?_);clear hK K' yn Me Ml LL k9 y8 yT Kg KI KJ NW kA KA;refine aB 14 11 (.slice FD (l.length+1) c9) trivial ?_;simp only[Act.put,Ac];refine Ba (by kernel_rfl) ?_ _;refine oP ?_;go_wp2_with fail;go_roundg (n+2-k)
         case measure=>omega
         case rel=>exact⟨k,some k,l++[((⟨i,k,gs⟩:Ev),Value.slice fU (2*K) fM)],G',by go_num,by omega,rfl,⟨FD,c9,by rw[Ao];rfl⟩,rfl,(fun e he=>by cases he;omega),(by show _=_;rw[Cv,Cq,<-HL.out,Tf.out,iU.out];rfl),by rw[Ao];simp;omega,Tr.out,SE.out⟩
       ·obtain rfl:i=k:=by omega
        have Mr:¬((i:Int)<(i:Int)):=(by omega);have SY:=ai (akA (i:=i) (fun e he=>by have:=Zn.out e he;rw[HN.out];exact this) (by rw[HN.out];omega));rw[S8.out]at SY;have F0:=ai (me.out.eX _ _ i AY.out);by_cases ht:told=some i
        ·have hq:((bd s i:Int)==lo)=true:=by rw[SY.out];exact Ds ht
         have iU:Hid (gT T n i told=gT T n (i+1) told):=by have:=Tg.out;rw[if_pos rfl,if_pos ht]at this;exact this
         rcases cP with cP|cP
         all_goals
          go_wp2_with fail
          refine(F0.out).mono ?_;rintro e' w7 ⟨rfl,k7⟩;have Fx:=ai (KL.out.quiet k7);have yS:=ai (me.out.quiet _ _ _ AY.out k7);clear k7;go_wp2_with fail;go_roundg (n+2-(i+1))
          case measure=>omega
          case rel=>exact⟨i+1,told,l,_,by go_num,by omega,rfl,⟨av,cv,rfl⟩,by rw[S8.out],Zn.out,(by show _=_;rw[<-HL.out,Tf.out,iU.out]),by omega,Fx.out,yS.out⟩
        ·have hq:((bd s i:Int)==lo)=false:=by rw[SY.out];exact A9 ht
         have iU:Hid (gT T n i told=[(⟨i,i,gs⟩:Ev)]++gT T n (i+1) (some i)):=by have:=Tg.out;rw[if_pos rfl,if_neg ht]at this;exact this
         rcases cP with cP|cP
         all_goals
          go_wp2_with fail
          refine(F0.out).mono ?_;rintro e' w6 ⟨rfl,k6⟩;have KL:=ai (KL.out.quiet k6);have AY:=ai (me.out.quiet _ _ _ AY.out k6);have Oh:=ai (Oh.out.kept k6 (fun _ _ q=>q.elim));clear k6 F0;have F1:=ai (me.out.eX _ _ i AY.out);go_wp2_with fail;refine(F1.out).mono ?_;rintro e' w7 ⟨rfl,k7⟩;have Fx:=ai (KL.out.quiet k7);have yS:=ai (me.out.quiet _ _ _ AY.out k7);have Kf:=ai (Oh.out.kept k7 (fun _ _ q=>q.elim));have F2:=ai (me.out.eX _ _ i yS.out);clear F1 k7;go_wp2_with fail;refine(F2.out).mono ?_;rintro e' w8 ⟨rfl,k8⟩;have y8:=ai (Fx.out.quiet k8);have yT:=ai (me.out.quiet _ _ _ yS.out k8);have Kg:=ai (Kf.out.kept k8 (fun _ _ q=>q.elim));have KI:=ai y8.out.aN;have MD:=me.out.size _ _ yT.out;clear F2 k8 Fx yS Kf;go_wp2_with fail;refine pR (Ea (by kernel_rfl) (Dy (S:=fun _=>True) _ _ _ _ ?_));refine aB 0 87 (.slice av l.length cv) trivial ?_;refine aB 1 88 (.int .i64 (bd s i:Int)) trivial ?_;refine aB 2 89 (.int .i64 (bd s i:Int)) trivial ?_;refine aB 3 90 (.slice fU (3*K) fM) trivial ?_;refine aB 4 91 (.int .i64 (K:Int)) trivial ?_;refine jV 5 92 (.int .i64 (2*(K:Int))) rfl rfl (by kernel_rfl) (by kernel_rfl) (by kernel_rfl) (fun _ _ _ h=>h) (Or.inl ⟨by rfl,fun W _=>by go_simp<;>(rw[By];omega)⟩) trivial ?_;refine aB 6 93 (.slice fU (2*K) fM) trivial ?_;refine aB 7 94 (.string s) trivial ?_;refine aB 8 95 (.int .i64 (bd s i:Int)) trivial ?_;refine aB 9 96 (.int .i64 (bd s i:Int)) trivial ?_;refine aB 10 97 (.string tx) trivial ?_;refine aB 11 98 (.agg #[.int .i64 (bd s i:Int),.int .i64 (bd s i:Int),.slice fU (2*K) fM,.string tx]) trivial ?_;simp only[Act.put,Ac,Ak,Aj];refine Ax (rs:=[12]) (by kernel_rfl) (by simp) (An rfl (fun K' hK=>?_) As);go_simp;refine hK.out _ _ trivial (fun _=>?_);clear hK K';have kA:I aq w8 (w8.alloc (.cells #[.int .i64 (bd s i:Int),.int .i64 (bd s i:Int),.slice fU (2*K) fM,.string tx] 72)).drew:=((I.refl aq w8).alloc _).drew
          have NW:∀j u,(vN s (⟨i,i,gs⟩,.slice fU (2*K) fM))[j]? =some u->(w8.alloc (.cells #[.int .i64 (bd s i:Int),.int .i64 (bd s i:Int),.slice fU (2*K) fM,.string tx] 72)).drew.cell? (Addr.add ⟨w8.heap.size,0,none⟩ j)=some u:=fun j u hj=>by
           have hB:=(ay.new w8 #[.int .i64 (bd s i:Int),.int .i64 (bd s i:Int),.slice fU (2*K) fM,.string tx] 72).cell j;rw[Ij];show(w8.alloc (.cells #[.int .i64 (bd s i:Int),.int .i64 (bd s i:Int),.slice fU (2*K) fM,.string tx] 72)).cell? _=_
           rw[hB];unfold vN at hj;simp only[Tj.out]at hj;simpa using hj
          have KJ:=dh KI.out kA (fun _ _ q=>q);have QD:(w8.alloc (.cells #[.int .i64 (bd s i:Int),.int .i64 (bd s i:Int),.slice fU (2*K) fM,.string tx] 72)).drew.heap.size=w8.heap.size+1:=cR _ _;have KA:=ai kA;generalize(w8.alloc (.cells #[.int .i64 (bd s i:Int),.int .i64 (bd s i:Int),.slice fU (2*K) fM,.string tx] 72)).drew=wA at*;refine Ax (rs:=[13]) (by kernel_rfl) (by simp) (An rfl (fun K' hK=>?_) As);refine E6 rfl (.tmp 87) (.tmp 99) 22 rfl w4.heap.size 72 ie _ 4 56 underlying22 uf QH QE P6 rfl (by decide) _ _ _ rfl KJ ⟨w8.heap.size,0,none⟩ 1 1 (vN s (⟨i,i,gs⟩,.slice fU (2*K) fM)) rfl rfl NW (aeM s (⟨i,i,gs⟩,.slice fU (2*K) fM) rfl) (by unfold maxLen;omega) (by omega) (by omega) ?_;intro v' w9 yn Me Ml;obtain⟨FD,c9,rfl⟩:=dY yn;obtain⟨LL,k9⟩:=y8.out.lg (q:=(⟨i,i,gs⟩,.slice fU (2*K) fM)) (me.out.lt _ _ yT.out) KA.out Kg.out yn Me Ml;have Tr:=ai LL;have SE:=ai (me.out.dn _ _ _ _ _ yT.out y8.out k9);refine hK.out _ _ trivial (fun _=>?_);clear hK K' yn Me Ml LL k9 y8 yT Kg KI KJ NW kA KA;refine aB 14 11 (.slice FD (l.length+1) c9) trivial ?_;simp only[Act.put,Ac];refine Ba (by kernel_rfl) ?_ _;refine oP ?_;go_wp2_with fail;go_roundg (n+2-(i+1))
          case measure=>omega
          case rel=>exact⟨(i+1),some i,l++[((⟨i,i,gs⟩:Ev),Value.slice fU (2*K) fM)],G',by go_num,by omega,rfl,⟨FD,c9,by rw[Ao];rfl⟩,rfl,(fun e he=>by cases he;omega),(by show _=_;rw[Cv,Cq,<-HL.out,Tf.out,iU.out];rfl),by rw[Ao];simp;omega,Tr.out,SE.out⟩
    ·have hP:¬((pp:Int)<=(n:Int)):=by omega
     have aO:Hid (l.map (·.1)=wC p s):=by
      have h:=HL.out;rw[Uf (by omega),C8]at h;exact h
     go_wp2_with fail
     go_ret
     exact⟨G,_,_,rfl,l,Tc.out,aO.out,me.out.kept _ _ Oo.out⟩
theorem amv(hg:BA g s)(hs:s.size<=300):pick (ix g s)=uJ g s:=by
 obtain⟨r1,r2,r3,r4⟩:=K4 s;have qP:=aev (g:=g) (bP s);have vi:=abl hg.gd (bP s) rfl r3
 have mw:(ix g s).dd=(bP s).au.dd/\(ix g s).form=ml s.size jU (fC s):=by
  unfold ix;split
  ·refine⟨?_,?_⟩
   ·rw[<-qP.1];unfold bu.bG;split
    ·rfl
    ·rfl
   ·rw[<-vi];unfold bu.bG;split
    ·rfl
    ·rfl
  ·exact⟨qP.1,vi⟩
 unfold uJ;rw[if_neg (by omega)]
 cases hr:(bP s).au.dd with
 |some p=>
  obtain⟨e,hp⟩:=r1 p hr;rw[if_pos (by omega),e];rw[hr]at mw;unfold pick;rw[mw.1]
 |none=>
  have e:=(r2 hr).1;rw[if_neg (by omega)];rw[hr]at mw
  cases hf:ml s.size jU (fC s)with
  |some q=>
   have hq:=Ux (by omega) _ _ q hf;rw[Pq,hf,if_pos (by exact hq)];unfold pick;rw[mw.1,mw.2,hf];rfl
  |none=>
   rw[Pq,hf,if_neg (by decide)]
def BL(w:World)(v:Value)(xs:List Int):Prop:=∃ao gb cap,v=.slice ao xs.length cap/\fL w ao gb xs
theorem BL.kept(h:BL w v xs)(k:I aq w w'):BL w' v xs:=by
 obtain⟨ao,gb,cap,h1,h2⟩:=h;exact⟨ao,gb,cap,h1,h2.kept k (fun _ q=>q)⟩
theorem Ul{α:Type}(f:α->List Value)(hf:∀a,(f a).length=4):∀(l:List α) (i:Nat) (h:i<l.length) (j:Nat) (hj:j<4),(l.flatMap f)[i*4+j]? =(f l[i])[j]?
 | [],i,h,j,hj=>by cases h
 |a::l,0,h,j,hj=>by
  rw[List.flatMap_cons,Au (by rw[hf];omega)];simp
 |a::l,i+1,h,j,hj=>by
  have ih:=Ul f hf l i (by simpa using h) j hj;rw[List.flatMap_cons,Be (by rw[hf];omega),hf,show(i+1)*4+j-4=i*4+j by omega,ih];rfl
structure Fe(w:World)(v:Value)(s:ByteArray)(l:List Ev)(GV:Nat->Value):Prop where
 val:∃o c,v=.slice o l.length c/\(l≠ []->∃g,o=some ⟨g,0,none⟩/\g<w.heap.size/\∀k,(hk:k<l.length)->w.cell? ⟨g,k*4,none⟩=some (.int .i64 (bd s l[k].a:Int))/\w.cell? ⟨g,k*4+1,none⟩=some (.int .i64 (bd s l[k].b:Int))/\w.cell? ⟨g,k*4+2,none⟩=some (GV k)/\w.cell? ⟨g,k*4+3,none⟩=some (.string (s.extract (bd s l[k].a) (bd s l[k].b))))
 gv:∀k,(hk:k<l.length)->BL w (GV k) l[k].gs
theorem Fe.kept{l:List Ev}{GV:Nat->Value}(h:Fe w v s l GV)(k:I aq w w'):Fe w' v s l GV:=by
 obtain⟨o,c,h1,h2⟩:=h.val;refine⟨⟨o,c,h1,fun aF=>?_⟩,fun i hi=>(h.gv i hi).kept k⟩;obtain⟨g,h3,h4,h5⟩:=h2 aF;have kc:∀i,w'.cell? ⟨g,i,none⟩=w.cell? ⟨g,i,none⟩:=fun i=>k.cell (p:=⟨g,i,none⟩) h4 (fun q=>q)
 exact⟨g,h3,A3 h4 k.size,fun i hi=>⟨(kc _).trans (h5 i hi).1,(kc _).trans (h5 i hi).2.1,(kc _).trans (h5 i hi).2.2.1,(kc _).trans (h5 i hi).2.2.2⟩⟩
theorem adM{F:List Value}(h:w.ownsRow base 72 4 v n F):∃o c,v=.slice o n c/\(n≠0->∃g,o=some ⟨g,0,none⟩/\g<w.heap.size/\∀i,i<n*4->w.cell? ⟨g,i,none⟩=F[i]?):=by
 rcases h.2 with⟨rfl,rfl⟩|⟨g,cap,aU,rfl,a1,a2,a3,a4,a5,a6⟩
 ·exact⟨none,0,rfl,fun h=>absurd rfl h⟩
 ·refine⟨_,cap,rfl,fun _=>⟨g,rfl,(Ah.1 a2).1,fun i hi=>?_⟩⟩;have hB:ay w g aU 72:=a2;rw[hB.cell i,<-a6,Al hi];simp
theorem nu.Ue{N2:Nat}{l:List (Ev×Nat)}(h:nu w base v s N2 l)(hN:∀p∈l,p.1.gs.length=N2):∃GV,Fe w v s (l.map (·.1)) GV:=by
 obtain⟨o,c,h1,h2⟩:=adM h.row;refine⟨fun k=>.slice (some ⟨(l.getD k (⟨0,0,[]⟩,0)).2,0,none⟩) N2 N2,⟨o,c,by rw[h1];simp,fun aF=>?_⟩,fun k hk=>?_⟩
 ·obtain⟨g,h3,h4,h5⟩:=h2 (fun e=>aF (by rw[Az.1 e];rfl));refine⟨g,h3,h4,fun k hk=>?_⟩;have dL:k<l.length:=by simpa using hk
  have f:=fun j hj=>Ul (fun p:Ev×Nat=>CM s N2 p.1 p.2) (fun _=>rfl) l k dL j hj
  have e1:(l.getD k (⟨0,0,[]⟩,0))=l[k]:=by simp[Ae,dL]
  have e2:(l.map (·.1))[k]=l[k].1:=by simp
  simp only[e1,e2];have g0:=f 0 (by omega);have g1:=f 1 (by omega);have g2:=f 2 (by omega);have g3:=f 3 (by omega);exact⟨(h5 (k*4) (by omega)).trans g0,(h5 (k*4+1) (by omega)).trans g1,(h5 (k*4+2) (by omega)).trans g2,(h5 (k*4+3) (by omega)).trans g3⟩
 ·have dL:k<l.length:=by simpa using hk
  have e1:(l.getD k (⟨0,0,[]⟩,0))=l[k]:=by simp[Ae,dL]
  have e2:(l.map (·.1))[k]=l[k].1:=by simp
  simp only[e1,e2];have hB:=(h.bK _ (Ay dL)).2;refine⟨some ⟨l[k].2,0,none⟩,l[k].2,N2,by rw[hN _ (Ay dL)],⟨fun _=>⟨rfl,hB.lt⟩,fun i hi=>?_,fun _=>⟨_,hB⟩⟩⟩;rw[hB.cell i];unfold iE;simp[hi]
theorem pX.Ue(h:pX w G base v s l):∃GV,Fe w v s (l.map (·.1)) GV:=by
 obtain⟨o,c,h1,h2⟩:=adM h.aN;refine⟨fun k=>(l.getD k (⟨0,0,[]⟩,.slice none 0 0)).2,⟨o,c,by rw[h1];simp,fun aF=>?_⟩,fun k hk=>?_⟩
 ·obtain⟨g,h3,h4,h5⟩:=h2 (fun e=>aF (by rw[Az.1 e];rfl));refine⟨g,h3,h4,fun k hk=>?_⟩;have dL:k<l.length:=by simpa using hk
  have f:=fun j hj=>Ul (vN s) (fun _=>rfl) l k dL j hj
  have e1:(l.getD k (⟨0,0,[]⟩,.slice none 0 0))=l[k]:=by simp[Ae,dL]
  have e2:(l.map (·.1))[k]=l[k].1:=by simp
  simp only[e1,e2];have g0:=f 0 (by omega);have g1:=f 1 (by omega);have g2:=f 2 (by omega);have g3:=f 3 (by omega);exact⟨(h5 (k*4) (by omega)).trans g0,(h5 (k*4+1) (by omega)).trans g1,(h5 (k*4+2) (by omega)).trans g2,(h5 (k*4+3) (by omega)).trans g3⟩
 ·have dL:k<l.length:=by simpa using hk
  have e1:(l.getD k (⟨0,0,[]⟩,.slice none 0 0))=l[k]:=by simp[Ae,dL]
  have e2:(l.map (·.1))[k]=l[k].1:=by simp
  simp only[e1,e2];obtain⟨ao,gb,cap,q1,q2,_⟩:=h.bK _ (Ay dL);exact⟨ao,gb,cap,q1,q2⟩
theorem anq{va vb:Value}(ha:BL w va xs)(hb:BL w vb xs)(hx:xs.length<=1000000):Calls prog 39 #[va,vb] w fun e w'=>e=.returned (.bool true)/\∃m,w'=w.drewN m:=by
 obtain⟨oa,ga,ca,rfl,ra⟩:=ha;obtain⟨ob,gb,cb,rfl,rb⟩:=hb;have RA:=ai ra;have RB:=ai rb;obtain⟨n,HX⟩:∃n,Hid (xs.length=n):=⟨_,(rfl:_=_)⟩
 rw[HX.out]at hx⊢;clear ra rb;go_in;go_wp2_with fail;go_loopg [5] n (fun kk i wr=>∃j:Nat,i=.int .i64 j/\j<=n/\kk=n-j/\∃m,wr=w.drewN m)
 case atStart=>exact⟨0,rfl,Aw _,rfl,0,rfl⟩
 case round=>
  obtain⟨j,rfl,hj,rfl,m,rfl⟩:=hrel;by_cases ar:j<n
  ·have Mh:j<xs.length:=by rw[HX.out];exact ar
   have aF:xs≠ []:=fun e=>by rw[e]at Mh;cases Mh
   obtain⟨rfl,_⟩:=RA.out.ig aF;obtain⟨rfl,_⟩:=RB.out.ig aF;have d1:=RA.out.cell j Mh;have d2:=RB.out.cell j Mh;generalize xs[j]=x at*;clear aF Mh;go_wp2_with fail;go_big_quiet (fail);go_wp2_with fail;go_roundg (n-(j+1))
   case measure=>omega
   case rel=>exact⟨j+1,by go_num,by omega,rfl,m+nq,by first|rfl|rw[World.drewN_drewN]⟩
  ·have vq:j=n:=(by omega);subst vq;go_wp2_with fail;go_ret;exact⟨rfl,m,rfl⟩
theorem anp{a b:Int}{ga gb:Value}{t:ByteArray}(ha:BL w ga xs)(hb:BL w gb xs)(hx:xs.length<=1000000):Calls prog 22 #[.agg #[.int .i64 a,.int .i64 b,ga,.string t],.agg #[.int .i64 a,.int .i64 b,gb,.string t]] w fun e w'=>e=.returned (.bool true)/\I aq w w':=by
 have k1:I aq w (w.alloc (.cells #[.int .i64 a,.int .i64 b,ga,.string t] 72)):=(I.refl aq w).alloc _;have k2:I aq w ((w.alloc (.cells #[.int .i64 a,.int .i64 b,ga,.string t] 72)).alloc (.cells #[.int .i64 a,.int .i64 b,gb,.string t] 72)):=k1.alloc _;have F:=ai (anq (ha.kept k2) (hb.kept k2) hx);have K2:=ai k2;obtain⟨oa,ga',ca,rfl,_⟩:=ha;obtain⟨ob,gi,cb,rfl,_⟩:=hb;clear k1 k2;go_in;go_wp2_with fail;refine(F.out).mono ?_;rintro e w3 ⟨rfl,m,rfl⟩;have K3:=ai (K2.out.drewN m);clear F;go_wp2_with fail;go_ret;exact⟨rfl,K3.out⟩
def Yy(g k:Nat)(a b:Int)(gv:Value)(t:ByteArray)(W:World):Prop:=W.cell? ⟨g,k*4,none⟩=some (.int .i64 a)/\W.cell? ⟨g,k*4+1,none⟩=some (.int .i64 b)/\W.cell? ⟨g,k*4+2,none⟩=some gv/\W.cell? ⟨g,k*4+3,none⟩=some (.string t)
def Yz(ga gb k:Nat)(a b:Int)(va vb:Value)(t:ByteArray)(W:World):Prop:=Yy ga k a b va t W/\Yy gb k a b vb t W
theorem aiv{v1:Value}{l:List Ev}{GA GB:Nat->Value}(ha:Fe w v1 s l GA)(hb:Fe w v2 s l GB)(hl:l.length<=1000000)(hg:∀e∈l,e.gs.length<=1000000):Calls prog 10 #[v1,v2,.int .i64 0] w fun e w'=>e=.returned (.bool true)/\I aq w w':=by
 have H1:=ai ha;have H2:=ai hb;have HG:=ai hg;obtain⟨oa,ca,rfl,_⟩:=ha.val;obtain⟨ob,cb,rfl,_⟩:=hb.val;obtain⟨n,HN⟩:∃n,Hid (l.length=n):=⟨_,(rfl:_=_)⟩
 rw[HN.out]at hl⊢;clear ha hb hg;go_in;go_wp2_with fail;go_loopg [7] n (fun kk i wr=>∃j:Nat,i=.int .i64 j/\j<=n/\kk=n-j/\Hid (I aq w wr))
 case atStart=>exact⟨0,rfl,Aw _,rfl,I.refl _ _⟩
 case round=>
  obtain⟨j,rfl,hj,rfl,K⟩:=hrel;by_cases ar:j<n
  ·have rQ:j<l.length:=by rw[HN.out];exact ar
   have aF:l≠ []:=fun e=>by rw[e]at rQ;cases rQ
   have E1:=H1.out.kept K.out;have E2:=H2.out.kept K.out;obtain⟨o1,c1,e1,f1⟩:=E1.val;obtain⟨o2,c2,e2,f2⟩:=E2.val;obtain⟨ga,rfl,hga,q1⟩:=f1 aF;obtain⟨gb,rfl,kj,q2⟩:=f2 aF;simp only[HN.out,Value.slice.injEq,true_and]at e1 e2;obtain⟨rfl,rfl⟩:=e1;obtain⟨rfl,rfl⟩:=e2;obtain⟨a0,a1,a2,a3⟩:=q1 j rQ;obtain⟨b0,b1,b2,b3⟩:=q2 j rQ;have ue:=E1.gv j rQ;have gz:=E2.gv j rQ;have jz:=HG.out _ (Ay rQ);generalize(bd s l[j].a:Int)=a at*;generalize(bd s l[j].b:Int)=b at*;generalize s.extract (bd s l[j].a) (bd s l[j].b)=t at*;generalize l[j].gs=xs at*;generalize GA j=va at*;generalize GB j=vb at*
   have PS:Hid (∀W,I aq wr W->Yz ga gb j a b va vb t W):=fun W k=>by
    have k1:∀i,W.cell? ⟨ga,i,none⟩=wr.cell? ⟨ga,i,none⟩:=(fun i=>k.cell (p:=⟨ga,i,none⟩) hga (fun q=>q));have k2:∀i,W.cell? ⟨gb,i,none⟩=wr.cell? ⟨gb,i,none⟩:=fun i=>k.cell (p:=⟨gb,i,none⟩) kj (fun q=>q)
    exact⟨⟨(k1 _).trans a0,(k1 _).trans a1,(k1 _).trans a2,(k1 _).trans a3⟩,(k2 _).trans b0,(k2 _).trans b1,(k2 _).trans b2,(k2 _).trans b3⟩
   have F:=ai (anp (a:=a) (b:=b) (t:=t) (ue.kept (I.refl aq wr).drew) (gz.kept (I.refl aq wr).drew) jz);obtain⟨oa5,ga5,ca5,rfl,_⟩:=ue;obtain⟨ob5,gb5,cb5,rfl,_⟩:=gz;clear E1 E2 f1 f2 q1 q2 a0 a1 a2 a3 b0 b1 b2 b3 aF rQ;go_wp2_with fail;have az:=PS.out wr.drew (I.refl aq wr).drew;refine pR (Ea (by kernel_rfl) (Dy (S:=Yz ga gb j a b (.slice oa5 xs.length ca5) (.slice ob5 xs.length cb5) t) _ _ _ _ ?_));refine aB 0 22 (.slice (some ⟨ga,0,none⟩) n ca) az ?_;refine aB 1 23 (.int .i64 (j:Int)) az ?_;refine aB 2 24 (.pointer (some ⟨ga,j*4,none⟩)) az ?_;refine aB 3 25 (.agg #[.int .i64 a,.int .i64 b,.slice oa5 xs.length ca5,.string t]) az ?_;refine aB 4 26 (.slice (some ⟨gb,0,none⟩) n cb) az ?_;refine aB 5 27 (.int .i64 0) az ?_;refine aB 6 28 (.int .i64 (j:Int)) az ?_;refine jV 7 29 (.int .i64 (j:Int)) rfl rfl (by kernel_rfl) (by kernel_rfl) (by kernel_rfl) (fun _ _ _ h=>h) (Or.inl ⟨by rfl,fun W dJ=>by obtain⟨⟨b0,b1,b2,b3⟩,e0,e1,e2,e3⟩:=dJ;go_simp<;>(rw[By]<;>omega)⟩) az ?_;refine aB 8 30 (.pointer (some ⟨gb,j*4,none⟩)) az ?_;refine aB 9 31 (.agg #[.int .i64 a,.int .i64 b,.slice ob5 xs.length cb5,.string t]) az ?_;simp only[Act.put,Ac,Ak,Aj];refine Ax (rs:=[10]) (by kernel_rfl) (by simp) (An rfl (fun K' hK=>?_) As);go_simp;refine(F.out).mono ?_;rintro e' w5 ⟨rfl,k5⟩;clear F;have KB:Hid (I aq wr w5):=(I.refl aq wr).drew.trans k5;dsimp only;have fN:=PS.out _ KB.out;refine hK.out _ _ fN (fun _=>?_);clear hK K' k5;refine aB 11 8 (.bool true) fN ?_;simp only[Act.put,Ac,Ak,Aj];refine Ba (by kernel_rfl) ?_ _;refine oP ?_;clear az fN PS;go_wp2_with fail;go_roundg (n-(j+1))
   case measure=>omega
   case rel=>exact⟨j+1,by go_num,by omega,rfl,K.out.trans KB.out⟩
  ·have vq:j=n:=(by omega);subst vq;go_wp2_with fail;go_ret;exact⟨rfl,K.out⟩
theorem W8(x:Int)(w:World):Calls prog 8 #[.int .i64 x] w fun e w'=>e=.returned (.int .i64 x)/\w'=w:=by
 go_in
 go_wp2_with fail
 go_ret
 exact⟨rfl,rfl⟩
theorem anO(s:ByteArray)(w:World)(hs:s.size<=maxLen):Calls prog 5 #[.string s] w fun e w'=>∃t:ByteArray,e=.returned (.string t)/\t.size<=200/\w'=w:=by
 unfold maxLen at hs;by_cases h:200<s.size
 ·have hi:(200:Int)<(s.size:Int):=by omega
  have lX:=fun wx=>ae7 s 0 200 (by omega) (by omega) wx
  go_in
  go_wp2_with fail
  go_ret
  refine⟨_,rfl,?_,rfl⟩;rw[ByteArray.size_extract];omega
 ·have hi:¬((200:Int)<(s.size:Int)):=by omega
  go_in
  go_wp2_with fail
  go_ret
  exact⟨s,rfl,by omega,rfl⟩
theorem aa6(T:Nat->gN)(n:Nat):∀(k i:Nat) (told:Option Nat),(lu T n k i told).length<=k
 |0,_,_=>Aa _
 |k+1,i,told=>by
  have ih:=aa6 T n k;unfold lu;by_cases hn:n<i
  ·rw[if_pos hn];exact Aw _
  ·rw[if_neg hn]
   cases T i with
   |none=>exact Nat.le_succ_of_le (ih _ _)
   |some v=>
    simp only;have h1:=ih (v.1+1) told;have h2:=ih (v.1+1) (some v.1);have h3:=ih v.1 (some v.1);split
    ·split
     ·omega
     ·simp;omega
    ·simp;omega
theorem abv(p:ByteArray):BA (f_ p) p:=⟨rfl,rfl⟩
theorem ams(hs:p.size<=300):kZ p=(uJ (f_ p) p).1:=by
 unfold kZ;rw[if_neg (by omega),amv (abv p) hs]
theorem amr(hs:300<p.size):kZ p=1:=by
 unfold kZ;rw[if_pos hs]
theorem anx(p t:ByteArray)(w:World)(hp:p.size<=maxLen)(ht:t.size<=maxLen)(hT:j9 w):Calls prog 4 #[.string p,.string t] w fun e w'=>∃v,e=.returned (.tuple #[v,.bool true])/\I aq w w':=by
 have HT:=ai hT;have Fz0:=ai (anO t w ht);clear hT ht;go_in;go_wp2_with fail;refine(Fz0.out).mono ?_;rintro e wr ⟨s,rfl,hs,rfl⟩;clear Fz0;have F:=ai (aid p s wr hp (by omega) HT.out);go_wp2_with fail;refine(F.out).mono ?_;rintro e w1 ⟨k1,h⟩;have K1:=ai k1;clear F k1;by_cases hl:300<p.size
 ·have he:=amr hl;rw[he]at h;rcases h with⟨_,rfl⟩|⟨h,_⟩
  ·have FR:=ai (afX p w1 hl hp);have FN:=(fun W=>W8 1 W);have FNH:=ai FN;clear FN he;go_wp2_with fail;refine(FR.out).mono ?_;rintro e w2 ⟨rfl,k2⟩;have K2:=ai (K1.out.trans k2);clear FR k2;go_wp2_with fail;refine(FNH.out _).mono ?_;rintro e w3 ⟨rfl,rfl⟩;go_wp2_with fail;go_ret2;exact⟨_,rfl,K2.out⟩
  ·exact absurd h (by decide)
 ·have uh:p.size<=300:=by omega
  have zA:=ams uh;have HL':=ai uh;have yk:=uh;have FR:=ai (afZ p w1 (f_ p) (abv p) uh);by_cases he:kZ p=0
  ·rcases h with⟨h,_⟩|⟨_,v,l,rfl,hE,pz⟩
   ·exact absurd he h
   have hN:∀q∈l,q.1.gs.length=2*gk p:=fun q hq=>by
    have C_:=(NF uh he).2.2.1;have hA:=ah_ (Yc C_ s);have hm:q.1∈wC p s:=by rw[<-pz];exact List.mem_map_of_mem hq
    have h1:=hA.mem q.1 hm;exact(afm C_ s (Bf h1.1 h1.2.1) h1.2.2).2.2.1
   obtain⟨GA,hX⟩:=hE.Ue hN;have HX:=ai hX;have aiO:=aew uh
   have HGS:Hid (∀e∈l.map (·.1),e.gs.length<=1000000):=fun e hm=>by
    obtain⟨q,hq,rfl⟩:=Bh.1 hm;have:=hN q hq;omega
   have HLM:=ai pz;have HE:=ai he
   have dg:(wC p s).length<=100000:=by
    have h1:=aa6 (AS (pJ p) (gk p) (cG s)) (aW s).length ((aW s).length+1-0) 0 none;have h2:=RW s;unfold wC gT;omega
   obtain⟨ol,cl,hv,_⟩:=hX.val;subst hv;have dA:(l.map (·.1)).length=l.length:=(by simp);rw[dA]
   have rR:l.length<=100000:=by have:l.length=(wC p s).length:=by rw[<-pz];simp
                                omega
   have BF:=ai dA;have BH:=ai zA;clear hE pz hN hX dA zA he dg hl yk;go_wp2_with fail;refine(FR.out).mono ?_;rintro e w2 ⟨v1,v2,rfl,k2,_,bC⟩;rw[<-BH.out]at bC⊢;rw[HE.out]at bC⊢;obtain⟨nl,lo,nb,d_,a8,VK,rfl,dM⟩:=bC rfl;obtain⟨a2,c2,rfl⟩:=dY a8;have mA:nl.length=gk p:=VK.1;obtain⟨K,HK⟩:∃K,Hid (gk p=K):=⟨_,(rfl:_=_)⟩
   have FE:=ai (ah9 (s:=s) (fun k hk=>hk.2.1) dM HL'.out HE.out hs);have K2:=ai (K1.out.trans k2);have X2:=ai (HX.out.kept k2);rw[mA];rw[HK.out]at FE aiO⊢;clear FR k2 bC a8 VK dM HX mA;go_wp2_with fail;refine(FE.out).mono ?_;rintro e w3 ⟨G3,apD,v3,l3,rfl,hRF,Gx,k3⟩;obtain⟨GB,hY⟩:=hRF.Ue;have ab5:l3.map (·.1)=l.map (·.1):=(by rw[Gx,HLM.out]);rw[ab5]at hY;have FF:=ai (fun W (k:I aq w3 W)=>aiv ((X2.out.kept k3).kept k) (hY.kept k) (by rw[BF.out];omega) HGS.out);obtain⟨o3,c3,lB,_⟩:=hY.val;subst lB;rw[BF.out]at FF⊢;have K3:=ai (K2.out.trans k3);have FN:=ai (fun W=>W8 0 W);clear FE hRF Gx k3 hY ab5 X2;go_wp2_with fail;refine(FN.out _).mono ?_;rintro e w4 ⟨rfl,rfl⟩;go_wp2_with fail;refine(FF.out _ (I.refl _ _)).mono ?_;rintro e w5 ⟨rfl,k5⟩;have K5:=ai (K3.out.trans k5);clear FF k5;go_wp2_with fail;go_ret2;exact⟨_,rfl,K5.out⟩
  ·rcases h with⟨_,rfl⟩|⟨h,_⟩
   ·have BH:=ai zA;have aqx:((kZ p) !=0)=true:=(by simpa using he);clear zA hl uh;go_wp2_with fail;refine(FR.out).mono ?_;rintro e w2 ⟨v1,v2,rfl,k2,_,_⟩;rw[<-BH.out];have K2:=ai (K1.out.trans k2);clear FR k2;have FN:=ai (fun W=>W8 (kZ p) W);clear BH;generalize kZ p=f at*;go_wp2_with fail;refine(FN.out _).mono ?_;rintro e w3 ⟨rfl,rfl⟩;go_wp2_with fail;go_ret2;exact⟨_,rfl,K2.out⟩
   ·exact absurd h he
theorem aie(p t:ByteArray)(w:World)(hp:p.size<=maxLen)(ht:t.size<=maxLen)(hT:j9 w):Calls prog 3 #[.string p,.string t] w fun e w'=>e=.returned (.bool true)/\I aq w w':=by
 have F:=ai (anx p t w hp ht hT);clear hT;go_in;go_wp2_with fail;refine(F.out).mono ?_;rintro e w1 ⟨v,rfl,k1⟩;have K1:=ai k1;clear F k1;go_wp2_with fail;go_ret;exact⟨rfl,K1.out⟩
open Go.ChangeShapes Go.WideShapes Go.ChangeAt
theorem amI{H:Type}{enc:TypeId×Value->H}{P:Program}{f:Func}{s:ChangeSpec}{eD Lx handsOn again:Bool}{W':World}{args:Array Value}{ds gs:List (DataW H)}
 (hW:DataW.Whole enc P f.params.toList s.vars eD W args.toList ds gs [])
 (mZ:∀(b:Nat) (sp:Nat->Bool) (hd:Bool),DataW.TrodAll enc P W' b sp hd f.resultTypes.toList (v.resultList f.resultTypes.size) (s.fn H (ds++gs)).results [])
 (U0:∀sp:Nat->Bool,DataW.TrodAll enc P W' 0 sp true f.params.toList args.toList (s.fn H (ds++gs)).args [])
 (acw:∀sp:Nat->Bool,DataW.TrodVars enc P W' sp s.vars (s.fn H (ds++gs)).vars [])
 (hk:I aq W W')
 (bC:∀(j:Nat) (t:TypeId) (r:Value),f.resultTypes[j]? =some t->(v.resultList f.resultTypes.size)[j]? =some r->Value.okWide P W' .any 0 t r):
 s.post enc P f eD Lx handsOn again W args v W':=by
 refine⟨ds,gs,[],[],[],[],hW,mZ _ _ _,U0 _,acw _,(hk.below (Aa _) (fun _ _ h=>h)).frame _,fun _=>?_⟩;refine⟨bC,_,_,[],⟨[],[],Go.ChangeShapes.trodAll_append (U0 _) (mZ _ _ _),acw _,rfl,fun b off hp=>?_,fun _=>?_⟩,fun p hp _=>?_⟩
 ·simp at hp
 ·exact List.nodup_nil
 ·simp at hp
theorem aih:Lib.firstData=Rows.laid_unicode_utf8_first:=by kernel_rfl
theorem af3:(Lib.acceptData:DataW Unit)=Rows.laid_unicode_utf8_acceptRanges:=by kernel_rfl
theorem an5(hL:laidMetH prog Rows.findsRow.laid W):j9 W:=by
 have hM:laidMet prog Rows.findsRow.laid W:=by
  rw[<-MakeChecks.laidMetH_plain _ _ _ (by kernel_rfl)];exact hL
 have h3:=Lib.laidMet.reads hM (n:= "unicode/utf8.first") (d:=Rows.laid_unicode_utf8_first) (.tail _ (.tail _ (.head _)));have h4:=Lib.laidMet.reads hM (n:= "unicode/utf8.acceptRanges") (d:=Rows.laid_unicode_utf8_acceptRanges) (.head _);rw[<-aih]at h3;rw[<-af3]at h4;exact utf8Tabs_of_reads (ρ:=Tryz.ac9) {Tryz.WI with} ⟨by kernel_rfl,by kernel_rfl,by kernel_rfl,by kernel_rfl,by kernel_rfl,by kernel_rfl,by kernel_rfl⟩ h3 h4
theorem aN:ownKnob prog.godebug=none:=by kernel_rfl
end Go.Proofs.YtmbpfhlnifdhgaaGreatDoor
