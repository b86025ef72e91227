/- Package whole's  -/
import Derived.Test.YtpdnofhackjfdaaGreatDoorP40
set_option linter.all false
set_option maxRecDepth 100000
set_option maxHeartbeats 4000000
namespace Go.Proofs.YtpdnofhackjfdaaGreatDoor
open Go.Proofs.Tryz
open Go.RowKit Go.Maps
variable {mt:Bool} {X:ByteArray} {A pl x y:Int} {gs:List Int} {ms:List MS} {l:List bJ} {b fb p u0:Nat} {O O' S fix ay:Nat->Prop} {gv v:Value} {w w':World}
theorem agf{lo hi mb c G2 j:Nat}{vs:List Sv}{x:CX}{jL:List Int}(hM:jj w lo hi mb c vs ms)(ia:fg ms)(hq:iJ (G2:Int) ms)(dy:ms.length<=4001)(hs:x.s.size<=10000000)(JE:0<=x.aE/\x.aE<=1000000000000)(so:u0<ms.length)(Jv:G2<=100000)(eG:x.op=false)
 (hR:dd ms x (u0:Int) 0 (List.replicate (2*G2) (-1))=some (j,jL)):
 Calls prog 104 #[.agg #[.slice (some (GB mb 0)) ms.length c,GW (u0:Int),GW (G2:Int)],.agg #[.string x.s,GW x.aE,.int .i32 x.ah,.int .i32 x.bh,.bool x.op]] w fun e w'=>∃gb,e=.returned (.slice (some (GB gb 0)) (2*G2) (2*G2))/\w.heap.size<=gb/\au w' gb (cQ jL).toArray 3/\aa ai w w':=by
 have HM:=ab hM;have pV:=ab ia;have HQ:=ab hq;have HR:=ab hR;have Pw:=ab eG;clear hM ia hq hR eG;have K1:Hid (aa ai w ((w.alloc (.cells #[.slice (some (GB mb 0)) ms.length c,GW (u0:Int),GW (G2:Int)] 73)).alloc (.cells #[.string x.s,GW x.aE,.int .i32 x.ah,.int .i32 x.bh,.bool x.op] 105))):=((aa.refl ai w).alloc _).alloc _;have cZ:((w.alloc (.cells #[.slice (some (GB mb 0)) ms.length c,GW (u0:Int),GW (G2:Int)] 73)).alloc (.cells #[.string x.s,GW x.aE,.int .i32 x.ah,.int .i32 x.bh,.bool x.op] 105)).heap.size=w.heap.size+1+1:=by simp
 go_in
 go_wp2_with fail
 generalize((w.alloc (.cells #[.slice (some (GB mb 0)) ms.length c,GW (u0:Int),GW (G2:Int)] 73)).alloc (.cells #[.string x.s,GW x.aE,.int .i32 x.ah,.int .i32 x.bh,.bool x.op] 105))=w1 at*
 have F:=ab (adL (st:=(u0:Int)) (G:=(G2:Int)) (HM.o.kept K1.o) pV.o HQ.o dy hs JE);refine(F.o).mono ?_;rintro e w2 ⟨g,wf,wd,rfl,qT,Hd,hO,k2⟩;obtain⟨e1,e2,e3,e4,e5,e6,e7,e8,e9,vK,sX,yP,Gs,Gt,Gu⟩:=qT;have hz:bd g.x.s 0=0:=sS _;have F2:=ads Hd hO (i0:=0) (j:=j) (u0:=u0) (G:=G2) (jL:=jL) (Al _) (by rw[Hd.bg.zero];exact Ab _) e3 (by rw[e1];exact so) e4 Jv (by rw[e1,e2];exact HR.o);rw[hz]at F2;have F2:=ab F2;have lu:=ab (K1.o.trans k2);have HT:Hid ((g.x.op&&decide (g.x.n<=j))=false):=by show _=_;rw[e2,Pw.o,Ew]
 have kD:w.heap.size<=g.ob/\w.heap.size<=g.WB:=by omega
 have gg:=k2.size;clear F hO Hd k2 hz;go_wp2_with fail;refine(F2.o).mono ?_;rintro e w3 ⟨hA,_,aqh,wd3,_,_,k3⟩;obtain⟨gb,he,k_,BV⟩:=hA HT.o;subst he;have aA:Hid (aa ai w w3/\w.heap.size<=gb):=⟨lu.o.b_ k3 (fun i hi hx=>by omega),by have:=lu.o.size;omega⟩;have yw:=ab BV;clear F2 hA k3 lu HT BV;go_wp2_with fail;go_ret;exact⟨gb,rfl,aA.o.2,yw.o.kept ((aa.refl ai w3).alloc _) (fun h=>h),aA.o.1.alloc _⟩
theorem yR:prog.elem 42=5:=by simp[Program.elem,underlying42]
theorem apc{K:ByteArray}(h:jI w v K)(h0:0<=x)(h1:x<=K.size):∃v',(∀W,(Instr.slice 42 v (some (GW x)) none none).run prog W=.ok v' W)/\jI w v' (K.extract x.toNat K.size)/\∀i,v'.ownBlock=some i->v.ownBlock=some i:=by
 have ht:prog.underlying 42=some (.slice (prog.elem 42)):=by rw[yR];exact underlying42
 obtain⟨n,rfl⟩:=Au h0;have aW:(K.extract n K.size).size=K.size-n:=extract_size K n K.size (Ab _);rcases h with⟨rfl,hz⟩|⟨b,off,cap,rfl,h2,h3⟩
 ·refine⟨.slice none 0 0,fun W=>?_,Or.inl ⟨rfl,by simp only[Az];omega⟩,fun i hi=>hi⟩;rw[run_slice_l W _ _ _ _ ht .i64 _ h0 (by simpa using(show(n:Int)<=0 by omega)),yR,sizeOf5];have:n=0:=by omega
  subst this;simp[Result.andThen,sliced]
 ·simp only[Az];refine⟨.slice (if cap=n then some (GB b off)else some ⟨b,off+n,none⟩) (K.size-n) (cap-n),fun W=>?_,?_,fun i hi=>?_⟩
  ·rw[run_slice_l W _ _ _ _ ht .i64 _ h0 h1,yR,sizeOf5];by_cases hc:cap=n
   ·simp[Result.andThen,sliced,hc]
   ·by_cases hn:n=0
    ·subst hn;simp[Result.andThen,sliced,hc,Addr.add]
    ·simp[Result.andThen,sliced,hc,Addr.add,hn]
  ·refine Or.inr ?_;by_cases hc:cap=n
   ·rw[if_pos hc];exact⟨b,off,cap-n,by rw[aW],by omega,fun j hj=>by omega⟩
   ·rw[if_neg hc];refine⟨b,off+n,cap-n,by rw[aW],by omega,fun j hj=>?_⟩;rw[vN K n K.size j (Ab _) (by omega),Dt];exact h3 (n+j) (by omega)
  ·by_cases hc:cap=n
   ·rw[if_pos hc]at hi;exact hi
   ·rw[if_neg hc]at hi;exact hi
theorem afF{K:ByteArray}(h:jI w v K)(h0:0<=x)(hxy:x<=y)(h1:y<=K.size):∃v',(∀W,(Instr.slice 42 v (some (GW x)) (some (GW y)) none).run prog W=.ok v' W)/\jI w v' (K.extract x.toNat y.toNat)/\∀i,v'.ownBlock=some i->v.ownBlock=some i:=by
 have ht:prog.underlying 42=some (.slice (prog.elem 42)):=by rw[yR];exact underlying42
 obtain⟨n,rfl⟩:=Au h0;obtain⟨m,rfl⟩:=Au (show 0<=y by omega);have aW:(K.extract n m).size=m-n:=extract_size K n m (by omega);rcases h with⟨rfl,hz⟩|⟨b,off,cap,rfl,h2,h3⟩
 ·refine⟨.slice none 0 0,fun W=>?_,Or.inl ⟨rfl,by simp only[Az];omega⟩,fun i hi=>hi⟩;rw[run_slice_lh W _ _ _ _ ht .i64 .i64 _ _ h0 hxy (by simpa using(show(m:Int)<=0 by omega)),yR,sizeOf5];have:n=0:=by omega
  have:m=0:=by omega
  subst n m;simp[Result.andThen,sliced]
 ·simp only[Az];refine⟨.slice (if cap=n then some (GB b off)else some ⟨b,off+n,none⟩) (m-n) (cap-n),fun W=>?_,?_,fun i hi=>?_⟩
  ·rw[run_slice_lh W _ _ _ _ ht .i64 .i64 _ _ h0 hxy (by omega),yR,sizeOf5];by_cases hc:cap=n
   ·simp[Result.andThen,sliced,hc]
   ·by_cases hn:n=0
    ·subst hn;simp[Result.andThen,sliced,hc,Addr.add]
    ·simp[Result.andThen,sliced,hc,Addr.add,hn]
  ·refine Or.inr ?_;by_cases hc:cap=n
   ·rw[if_pos hc];exact⟨b,off,cap-n,by rw[aW],by omega,fun j hj=>by omega⟩
   ·rw[if_neg hc];refine⟨b,off+n,cap-n,by rw[aW],by omega,fun j hj=>?_⟩;rw[vN K n m j (by omega) (by omega),Dt];exact h3 (n+j) (by omega)
  ·by_cases hc:cap=n
   ·rw[if_pos hc]at hi;exact hi
   ·rw[if_neg hc]at hi;exact hi
theorem apd{K:ByteArray}(h:jI w v K)(h0:0<=y)(h1:y<=K.size):∃v',(∀W,(Instr.slice 42 v none (some (GW y)) none).run prog W=.ok v' W)/\jI w v' (K.extract 0 y.toNat):=by
 have ht:prog.underlying 42=some (.slice (prog.elem 42)):=by rw[yR];exact underlying42
 obtain⟨m,rfl⟩:=Au h0;have aW:(K.extract 0 m).size=m-0:=extract_size K 0 m (by omega);rcases h with⟨rfl,hz⟩|⟨b,off,cap,rfl,h2,h3⟩
 ·refine⟨.slice none 0 0,fun W=>?_,Or.inl ⟨rfl,by simp only[Az];omega⟩⟩;rw[run_slice_h W _ _ _ _ ht .i64 _ h0 (by simpa using(show(m:Int)<=0 by omega)),yR,sizeOf5];have:m=0:=by omega
  subst m;simp[Result.andThen,sliced]
 ·simp only[Az];refine⟨.slice (some (GB b off)) m cap,fun W=>?_,Or.inr ⟨b,off,cap,by rw[aW];rfl,by omega,fun j hj=>?_⟩⟩
  ·rw[run_slice_h W _ _ _ _ ht .i64 _ h0 (by omega),yR,sizeOf5];by_cases hc:cap=0
   ·subst hc;simp[Result.andThen,sliced]
   ·simp[Result.andThen,sliced,hc,Addr.add]
  ·rw[vN K 0 m j (by omega) (by omega),Ba];exact h3 j (by omega)
theorem aa1{s:ByteArray}(h:jI w v s):(convert 42 9 v).run prog w=.ok (.string s) w:=by
 rcases h with⟨rfl,hz⟩|⟨b,off,cap,rfl,h2,h3⟩
 ·rw[Lib.run_convert_nil_bytes w _ _ _ 0 underlying42 underlying5 underlying9]
  have:s=⟨#[]⟩:=by
   apply Dj
   exact Array.eq_empty_of_size_eq_zero hz
  rw[this]
 ·exact Lib.run_convert_whole w _ _ _ underlying42 underlying5 underlying9 b off s (fun i hi=>by rw[h3 i hi,Utf8W.get!_of_lt s i hi]) cap
theorem zN{base:Nat}{K:ByteArray}(h:w.ownsRow base 5 1 v K.size (jY K)):jI w v K:=by
 rcases h.2 with⟨rfl,hz⟩|⟨g,cap,aO,rfl,a1,a2,a3,a4,a5,a6⟩
 ·exact Or.inl ⟨rfl,hz⟩
 ·refine Or.inr ⟨g,0,cap,rfl,a3,fun j hj=>?_⟩
  have hB:w.cell? ⟨g,0+j,none⟩=aO[j]? :=by
   rw[Ba];exact au.cell a2 j
  rw[hB];have h1:=aaP K hj;rw[<-a6,Fg,Av hj]at h1;rw[<-h1];simp
def vc(w:World)(O:Nat->Prop)(gv:Value)(gs:List Int):Prop:=(gv=.slice none 0 0/\gs=[])\/∃gb,gv=.slice (some (GB gb 0)) gs.length gs.length/\O gb/\au w gb (cQ gs).toArray 3
theorem vc.kept{K:Nat->Prop}(h:vc w O gv gs)(k:aa K w w')(hK:∀i,O i->¬K i):vc w' O gv gs:=by
 rcases h with h|⟨gb,h1,h2,h3⟩
 ·exact Or.inl h
 ·exact Or.inr ⟨gb,h1,h2,h3.kept k (hK gb h2)⟩
theorem vc.mono(h:vc w O gv gs)(hO:∀i,O i->O' i):vc w O' gv gs:=by
 rcases h with h|⟨gb,h1,h2,h3⟩
 ·exact Or.inl h
 ·exact Or.inr ⟨gb,h1,hO gb h2,h3⟩
def pw(X:ByteArray)(e:Ev)(gv:Value):List Value:=[GW (aR X e.a),GW (aR X e.b),gv,.string (X.extract (bd X e.a) (bd X e.b))]
def iD(X:ByteArray)(l:List (Ev×Value)):List Value:=l.flatMap fun p=>pw X p.1 p.2
structure dY(w:World)(O:Nat->Prop)(v:Value)(X:ByteArray)(l:List (Ev×Value)):Prop where
 row:w.ownsRow 0 46 4 v l.length (iD X l)
 DU:∀i,v.ownBlock=some i->O i
 fA:∀p∈l,vc w O p.2 p.1.gs
 lt:∀i,O i->i<w.heap.size
theorem aby(X:ByteArray)(l:List (Ev×Value)):(iD X l).length=l.length*4:=by
 unfold iD;induction l with
 |nil=>rfl
 |cons p l ih=>rw[Dn,Aj,ih];simp[pw];omega
theorem air(X:ByteArray)(l m:List (Ev×Value)):iD X (l++m)=iD X l++iD X m:=by unfold iD;simp
theorem dY.kept{K:Nat->Prop}{l:List (Ev×Value)}(h:dY w O v X l)(k:aa K w w')(hK:∀i,O i->¬K i):dY w' O v X l:=
 ⟨bU h.row k (fun b hb=>hK b (h.DU b hb)),h.DU,fun p hp=>(h.fA p hp).kept k hK,fun i hi=>Ar (h.lt i hi) k.size⟩
theorem dY.new{l:List (Ev×Value)}(h:dY w O v X l)(k:aa ai w w'):dY w' O v X l:=h.kept k (fun _ _ h=>h)
theorem dY.nil(w:World)(X:ByteArray):dY w ai (.slice none 0 0) X []:=⟨A8 _ _ _ _,fun i h=>(by cases h),fun p h=>(by cases h),fun i h=>h.elim⟩
theorem dY.cell{l:List (Ev×Value)}(h:dY w O v X l):(v=.slice none 0 0/\l=[])\/∃g cap,v=.slice (some (GB g 0)) l.length cap/\l.length<=cap/\∀j u,(iD X l)[j]? =some u->w.cell? (((GB g 0):Addr).add j)=some u:=by
 rcases h.row.2 with⟨h1,h2⟩|⟨g,cap,aO,h1,a1,a2,a3,a4,a5,a6⟩
 ·exact Or.inl ⟨h1,Aw.1 h2⟩
 ·subst h1;exact Or.inr ⟨g,cap,rfl,a3,h.row.cells (g:=g) rfl⟩
theorem dY.Sb{l:List (Ev×Value)}(h:dY w O v X l){cs:Array Value}(hb:au w b cs 3):v.ownBlock≠some b:=fun e=>by
 rcases h.row.2 with⟨h1,_⟩|⟨g,cap,aO,h1,a1,a2,r⟩
 ·subst h1;simp[Value.ownBlock]at e
 ·subst h1;simp[Value.ownBlock]at e;subst e;unfold au at hb;rw[a2]at hb;simp at hb
theorem vc.bj{K:Nat->Prop}(h:vc w O gv gs)(k:aa K w w')(hK:∀b cs,K b->¬au w b cs 3):vc w' O gv gs:=by
 rcases h with h|⟨gb,h1,h2,h3⟩
 ·exact Or.inl h
 ·exact Or.inr ⟨gb,h1,h2,h3.kept k (fun hk=>hK gb _ hk h3)⟩
theorem dY.append{W:World}{O2:Nat->Prop}{v2 v':Value}{l m:List (Ev×Value)}(h:dY w O v X l)(h2:dY w O2 v2 X m)(k0:aa ai w W)
 (bC:w'.ownsRow 0 46 4 v' (l.length+m.length) (iD X l++iD X m))(hg:W.grownBy w' v.ownBlock)(jC:v'.ownBlock=v.ownBlock\/v'.ownBlock=some W.heap.size):dY w' (fun i=>O i\/O2 i\/i=W.heap.size/\v'.ownBlock=some i) v' X (l++m)/\aa (fun i=>v.ownBlock=some i) w w':=by
 have k7:aa (fun j=>v.ownBlock=some j) w w':=(k0.mono (fun i hx=>hx.elim)).eP hg (fun j hj=>Or.inl hj);have hb:∀b cs,v.ownBlock=some b->¬au w b cs 3:=fun b cs hv hB=>h.Sb hB hv
 have hs:=k0.size;refine⟨⟨by rw[Aj,air];exact bC,fun i hi=>?_,fun p hp=>?_,fun i hi=>?_⟩,k7⟩
 ·rcases jC with e|e
  ·exact Or.inl (h.DU i (by rw[<-e];exact hi))
  ·exact Or.inr (Or.inr ⟨by rw[hi]at e;exact C9 e,hi⟩)
 ·rcases Ap.1 hp with hp|hp
  ·exact((h.fA p hp).bj k7 hb).mono (fun i hi=>Or.inl hi)
  ·exact((h2.fA p hp).bj k7 hb).mono (fun i hi=>Or.inr (Or.inl hi))
 ·rcases hi with hi|hi|⟨_,hi⟩
  ·exact Ar (h.lt i hi) k7.size
  ·exact Ar (h2.lt i hi) k7.size
  ·exact(dw bC hi).2
theorem dY.mono{l:List (Ev×Value)}(h:dY w O v X l)(hO:∀i,O i->O' i)(hl:∀i,O' i->i<w.heap.size):dY w O' v X l:=
 ⟨h.row,fun i hi=>hO i (h.DU i hi),fun p hp=>(h.fA p hp).mono hO,hl⟩
structure FC where
 mv:Value
 st:Int
 G:Int
 ev:Value
 kv:Value
 aE:Int
 ah:Int
 pl:Int
 re:Int
 ag:Bool
 fr:Int
 tl:Int
 ma:Int
 mz:Int
 md:Bool
 wn:Int
 ov:Bool
def FC.cells(c:FC):Array Value:=#[c.mv,GW c.st,GW c.G,c.ev,c.kv,GW c.aE,.int .i32 c.ah,GW c.pl,GW c.re,.bool c.ag,GW c.fr,GW c.tl,GW c.ma,GW c.mz,.bool c.md,GW c.wn,.bool c.ov]
theorem FC.xy(c:FC)(f t:Int):nN c.cells 10 f t=({c with fr:=f,tl:=t}:FC).cells:=rfl
structure FM where
 lo:Nat
 hi:Nat
 mb:Nat
 cc:Nat
 vs:List Sv
 ms:List MS
 u0:Nat
 G:Nat
def FM.mv(g:FM):Value:=.slice (some (GB g.mb 0)) g.ms.length g.cc
def FM.cP(g:FM)(i:Nat):Prop:=(i=g.mb\/(g.lo<=i/\i<g.hi))\/(i=0\/i=1)
structure FM.Ok(g:FM):Prop where
 fJ:fg g.ms
 q:iJ (g.G:Int) g.ms
 bN:g.ms.length<=4001
 u0:g.u0<g.ms.length
 G:g.G<=100000
theorem jj.NU{g:FM}{K:Nat->Prop}(h:jj w g.lo g.hi g.mb g.cc g.vs g.ms)(k:aa K w w')(hK:∀i,K i->¬g.cP i):jj w' g.lo g.hi g.mb g.cc g.vs g.ms:=
 jj.Kb (g:=⟨0,0,0,g.lo,g.hi,g.mb,g.cc,g.vs,g.ms,0,0⟩) h k hK
structure fR(w:World)(fb:Nat)(g:FM)(c:FC)(K:ByteArray)(A:Int)(mt:Bool)(l:List bJ)(ay fix:Nat->Prop):Prop where
 aq:au w fb c.cells 124
 ma:jj w g.lo g.hi g.mb g.cc g.vs g.ms
 mv:c.mv=g.mv
 st:c.st=(g.u0:Int)
 G:c.G=(g.G:Int)
 en:mq w c.ev g.ms (g.u0:Int) A mt l ay fix
 kp:w.ownsRow 0 5 1 c.kv K.size (jY K)
 lC:∀i,ay i->i≠fb/\c.kv.ownBlock≠some i/\¬g.cP i
 nE:∀i,fix i\/g.cP i->i≠fb/\c.kv.ownBlock≠some i
 ub:c.kv.ownBlock≠some fb
def FO(fb:Nat)(c:FC)(ay:Nat->Prop)(i:Nat):Prop:=ay i\/i=fb\/c.kv.ownBlock=some i
theorem fR.kept{g:FM}{c:FC}{K:ByteArray}(h:fR w fb g c K A mt l ay fix)(k:aa S w w')(hS:∀i,S i->¬FO fb c ay i/\¬fix i/\¬g.cP i):fR w' fb g c K A mt l ay fix where
 aq:=h.aq.kept k (fun hs=>(hS fb hs).1 (Or.inr (Or.inl rfl)))
 ma:=h.ma.NU k (fun i hi=>(hS i hi).2.2)
 mv:=h.mv
 st:=h.st
 G:=h.G
 en:=h.en.kept k (fun i hi=>⟨fun ho=>(hS i hi).1 (Or.inl ho),(hS i hi).2.1⟩)
 kp:=bU h.kp k (fun b hb hs=>(hS b hs).1 (Or.inr (Or.inr hb)))
 lC:=h.lC
 nE:=h.nE
 ub:=h.ub
theorem fR.new{g:FM}{c:FC}{K:ByteArray}(h:fR w fb g c K A mt l ay fix)(k:aa ai w w'):fR w' fb g c K A mt l ay fix:=h.kept k (fun _ hx=>hx.elim)
theorem fR.put{g:FM}{c c':FC}{K:ByteArray}(h:fR w fb g c K A mt l ay fix)(k:aa (fun i=>i=fb) w w')(hb:au w' fb c'.cells 124)(e:c'.mv=c.mv/\c'.st=c.st/\c'.G=c.G/\c'.ev=c.ev/\c'.kv=c.kv):fR w' fb g c' K A mt l ay fix where
 aq:=hb
 ma:=h.ma.NU k (fun i hi hm=>(h.nE i (Or.inr hm)).1 hi)
 mv:=e.1.trans h.mv
 st:=e.2.1.trans h.st
 G:=e.2.2.1.trans h.G
 en:=by rw[e.2.2.2.1];exact h.en.kept k (fun i hi=>⟨fun ho=>(h.lC i ho).1 hi,fun hf=>(h.nE i (Or.inl hf)).1 hi⟩)
 kp:=by rw[e.2.2.2.2];exact bU h.kp k (fun b hb hs=>h.ub (by rw[<-hs];exact hb))
 lC:=by rw[e.2.2.2.2];exact h.lC
 nE:=by rw[e.2.2.2.2];exact h.nE
 ub:=by rw[e.2.2.2.2];exact h.ub
theorem fR.rR{g:FM}{c:FC}{K:ByteArray}{A':Int}{mt':Bool}{l':List bJ}{cG:Nat->Prop}(h:fR w fb g c K A mt l ay fix)(he:mq w' c.ev g.ms (g.u0:Int) A' mt' l' cG fix)(k:cH ay cG w w'):fR w' fb g c K A' mt' l' cG fix where
 aq:=h.aq.kept k.kept (fun hs=>(h.lC fb hs).1 rfl)
 ma:=h.ma.NU k.kept (fun i hi=>(h.lC i hi).2.2)
 mv:=h.mv
 st:=h.st
 G:=h.G
 en:=he
 kp:=bU h.kp k.kept (fun b hb hs=>(h.lC b hs).2.1 hb)
 lC i hi:=by
  rcases k.aq i hi with ho|hn
  ·exact h.lC i ho
  ·have h1:=h.aq.lt;refine⟨by omega,fun e=>by have:=(dw h.kp e).2;omega,fun hm=>?_⟩;have h2:=h.ma.le;have h3:=h.ma.jS.lt;have h4:=h.ma.iz.lt;rcases hm with(hm|hm)|(hm|hm)<;>omega
 nE:=h.nE
 ub:=h.ub
structure cx where
 f:Nat
 b:Nat
 i:Nat
 r:Nat
 bu:Nat
 l:List bJ
 mt:Option (Int×Nat)
 told:Int
def cx.K(s:cx)(X:ByteArray):ByteArray:=X.extract (bd X s.f) s.bu
structure mT(ms:List MS)(u0:Nat)(X:ByteArray)(s:cx):Prop where
 rR:pT ms X u0 s.b s.i s.l s.mt
 low:xl X s.f s.i s.l s.mt
 ir:s.i<=s.r
 rn:s.r<=(aJ X).length
 rf:bd X s.r<=s.bu
 fx:s.bu<=X.size
 sz:X.size<=10000000
structure Pa(X:ByteArray)(s:cx)(c:FC):Prop where
 aE:c.aE=aR X s.f
 j9:vB X s.f c.ah
 pl:c.pl=aR X s.i
 re:c.re=aR X s.r
 tl:c.tl=s.told
 md:c.md=s.mt.isSome
 mt:∀a j,s.mt=some (a,j)->c.ma=a/\c.mz=aR X j
 ov:c.ov=false
structure jJ(w:World)(fb:Nat)(g:FM)(X:ByteArray)(s:cx)(c:FC)(ay fix:Nat->Prop):Prop where
 mem:∃A,fR w fb g c (s.K X) A s.mt.isSome s.l ay fix/\pR g.ms ((aQ X).ahead s.i) A
 fc:Pa X s c
 ok:mT g.ms g.u0 X s
theorem jJ.kept{g:FM}{s:cx}{c:FC}(h:jJ w fb g X s c ay fix)(k:aa S w w')(hS:∀i,S i->¬FO fb c ay i/\¬fix i/\¬g.cP i):jJ w' fb g X s c ay fix:=by
 obtain⟨A,h1,h2⟩:=h.mem;exact⟨⟨A,h1.kept k hS,h2⟩,h.fc,h.ok⟩
theorem jJ.new{g:FM}{s:cx}{c:FC}(h:jJ w fb g X s c ay fix)(k:aa ai w w'):jJ w' fb g X s c ay fix:=h.kept k (fun _ hx=>hx.elim)
theorem mT.xw{s:cx}(h:mT ms u0 X s):bd X s.f<=bd X s.i/\bd X s.i<=bd X s.r/\bd X s.r<=s.bu/\s.bu<=X.size/\s.i<=(aJ X).length/\(s.K X).size=s.bu-bd X s.f:=
 ⟨fZ X h.low.le,fZ X h.ir,h.rf,h.fx,by have:=h.ir;have:=h.rn;omega,extract_size X _ _ h.fx⟩
theorem cx.from_{s:cx}(h0:bd X s.f<=p)(h1:p<=s.bu)(hx:s.bu<=X.size):(s.K X).extract (p-bd X s.f) (s.K X).size=X.extract p s.bu:=by
 unfold cx.K;rw[extract_size X _ _ hx,QD X _ _ _ _ (by omega)];congr 1<;>omega
theorem cx.range{s:cx}{q:Nat}(h0:bd X s.f<=p)(h1:p<=q)(h2:q<=s.bu)(hx:s.bu<=X.size):(s.K X).extract (p-bd X s.f) (q-bd X s.f)=X.extract p q:=by
 unfold cx.K;rw[QD X _ _ _ _ (by omega)];congr 1<;>omega
def cx.step(ms:List MS)(u0:Nat)(X:ByteArray)(A:Int)(s:cx):cx:=
 {s with i:=s.i+1,r:=max s.r (s.i+1),l:=(bc ms A ((aQ X).bF s.i) (j7 u0 (aR X s.i) s.mt.isSome s.l)).1,mt:=uR s.i (bc ms A ((aQ X).bF s.i) (j7 u0 (aR X s.i) s.mt.isSome s.l)).2 s.mt}
theorem mT.step(hg:fg ms)(hu:u0<ms.length){s:cx}(h:mT ms u0 X s)(hA:pR ms ((aQ X).ahead s.i) A)(hi:s.i<(aJ X).length)(hf:bd X (s.i+1)<=s.bu):mT ms u0 X (s.step ms u0 X A) where
 rR:=h.rR.step hg hu hi hA
 low:=h.low.step hg h.rR hu hi hA
 ir:=by show s.i+1<=max s.r (s.i+1);omega
 rn:=by have:=h.rn;show max s.r (s.i+1)<=_;omega
 rf:=by
  show bd X (max s.r (s.i+1))<=s.bu
  rcases Nat.le_total s.r (s.i+1)with h1|h1
  ·rw[Nat.max_eq_right h1];exact hf
  ·rw[Nat.max_eq_left h1];exact h.rf
 fx:=h.fx
 sz:=h.sz
def cx.jo(s:cx)(b:Nat)(told:Int):cx:={s with b:=b,i:=b,l:=[],mt:=none,told:=told}
theorem mT.jo{s:cx}(h:mT ms u0 X s)(told:Int)(h0:s.f<=b)(h1:b<=s.r):mT ms u0 X (s.jo b told) where
 rR:=pT.begin ms X u0 b (by have:=h.rn;omega)
 low:=⟨h0,fun t ht=>(by cases ht),fun a j hm=>(by cases hm)⟩
 ir:=h1
 rn:=h.rn
 rf:=h.rf
 fx:=h.fx
 sz:=h.sz
def cx.Gr(s:cx)(f:Nat):cx:={s with f:=f}
theorem mT.Gr{s:cx}(h:mT ms u0 X s){f:Nat}(hl:xl X f s.i s.l s.mt):mT ms u0 X (s.Gr f):=⟨h.rR,hl,h.ir,h.rn,h.rf,h.fx,h.sz⟩
def cx.fp(s:cx)(n:Nat):cx:={s with bu:=s.bu+n}
theorem mT.fp{s:cx}(h:mT ms u0 X s){n:Nat}(hn:s.bu+n<=X.size):mT ms u0 X (s.fp n):=⟨h.rR,h.low,h.ir,h.rn,by have:=h.rf;show bd X s.r<=s.bu+n;omega,hn,h.sz⟩
def cx.rest(ms:List MS)(u0 G:Nat)(X:ByteArray)(s:cx):List Ev:=(e_ (eV ms (aQ X) u0 G) (aJ X).length (aR X) false s.b s.told).1
theorem AA(h0: -9223372036854775808<=x)(h1:x<=9223372036854775807):IntKind.i64.wrap x=x:=by
 rw[Cr];omega
theorem RT{c:FC}{K:ByteArray}(hB:au w fb c.cells 124)(hK:jI w c.kv K)(h0:0<=c.aE)(h1:c.aE<=pl)(h2:pl-c.aE<=K.size)(h3:pl<=1000000000000):
 Calls prog 74 #[BT fb 0,GW pl] w fun e w'=>(∃v,e=.returned v/\jI w v (K.extract (pl-c.aE).toNat K.size))/\∃n,w'=w.drewN n:=by
 obtain⟨v',gX,hb,_⟩:=apc hK (x:=pl-c.aE) (by omega) h2;have c4:w.cell? (GB fb 4)=some c.kv:=hB.cell 4;have c5:w.cell? (GB fb 5)=some (GW c.aE):=hB.cell 5;have HB:=ab hb;generalize c.kv=kv at*;generalize c.aE=bg at*;clear hB hK hb h2;go_in;go_wp2_with fail;go_quiet (fail);go_wp2_with fail;go_ret;exact⟨⟨v',rfl,HB.o⟩,nq,rfl⟩
def oj(c:FC)(K:ByteArray)(pl:Int):Int:=if pl=c.aE then c.ah else qv ((Lib.decodeLastL (K.extract 0 (pl-c.aE).toNat).data.toList).1:Int)
def Y2(fb:Nat)(kv:Value)(bg:Int)(W:World):Prop:=W.cell? (GB fb 4)=some kv/\W.cell? (GB fb 5)=some (GW bg)
theorem UB{c:FC}{K:ByteArray}(hB:au w fb c.cells 124)(hK:jI w c.kv K)(hT:iM w)(h0:0<=c.aE)(h1:c.aE<=pl)(h2:pl-c.aE<=K.size)(h3:pl<=1000000000000)(h4:K.size<=1000000000000):
 Calls prog 105 #[BT fb 0,GW pl] w fun e w'=>e=.returned (.int .i32 (oj c K pl))/\aa ai w w':=by
 unfold oj;have c5:w.cell? (GB fb 5)=some (GW c.aE):=hB.cell 5;by_cases he:pl=c.aE
 ·rw[if_pos he];have c6:w.cell? (GB fb 6)=some (.int .i32 c.ah):=hB.cell 6;generalize c.aE=bg at*;generalize c.ah=ah at*;subst he;clear hB hK hT h2;go_in;go_wp2_with fail;go_ret;exact⟨rfl,aa.refl _ _⟩
 ·rw[if_neg he];obtain⟨v',gX,hb⟩:=apd hK (y:=pl-c.aE) (by omega) h2;have hz:(K.extract 0 (pl-c.aE).toNat).size=(pl-c.aE).toNat-0:=extract_size K 0 _ (by omega);have F:=ab fun(W:World) (k:aa ai w W)=>ah6 (hb.new k) (by omega) (by omega) (hT.iR k)
  have S1:Hid (∀W,aa ai w W->Y2 fb c.kv c.aE W):=fun W k=>by
   have:=hB.kept k (fun hx=>hx);exact⟨this.cell 4,this.cell 5⟩
  have aB:(pl==c.aE)=false:=by simpa using he
  have DA:IntKind.i64.wrap (pl-c.aE)=pl-c.aE:=AA (by omega) (by omega);generalize((Lib.decodeLastL (K.extract 0 (pl-c.aE).toNat).data.toList).1:Int)=la at*;generalize((Lib.decodeLastL (K.extract 0 (pl-c.aE).toNat).data.toList).2:Int)=RZ at*;generalize c.kv=kv at*;generalize c.aE=bg at*;clear hB hK hT hb hz h2;go_in;go_wp2_with fail;refine j_ (Cl (by kernel_rfl) (Ci (S:=Y2 fb kv bg) _ _ _ _ ?_));have ak:=S1.o w.drew (aa.refl _ _).drew;refine aj 0 18 (BT fb 0) ak ?_;refine aj 1 19 (BT fb 0) ak ?_;refine aj 2 20 (BT fb 4) ak ?_;refine aj 3 21 kv ak ?_;refine aj 4 22 (GW pl) ak ?_;refine aj 5 23 (BT fb 0) ak ?_;refine aj 6 24 (BT fb 0) ak ?_;refine aj 7 25 (BT fb 5) ak ?_;refine aj 8 26 (GW bg) ak ?_;refine aj 9 27 (GW (pl-bg)) ak ?_;refine aj 10 28 v' ak ?_;simp only[Act.put,Aa,Ad,Ac];refine bR 11 fun K hK=>?_
  go_simp;refine(F.o _ (aa.refl _ _).drew).mono ?_;rintro e w1 ⟨rfl,k1⟩;dsimp only;have K1:Hid (aa ai w w1):=((aa.refl ai w).drew).trans k1;have fe:=S1.o w1 K1.o;refine hK.o _ _ fe (fun _=>?_);clear hK K F k1;refine aj 12 17 (.tuple #[.int .i32 la,GW RZ]) fe ?_;refine aj 13 30 (.int .i32 la) fe ?_;refine aj 14 31 (GW RZ) fe ?_;refine aj 15 5 (.int .i32 la) fe ?_;refine aj 16 6 (GW RZ) fe ?_;simp only[Act.put,Aa,Ad,Ac];refine At (by kernel_rfl) ?_ _;refine jE ?_;clear S1 ak fe;go_simp;go_wp2_with fail;refine(aat w1 la).mono ?_;rintro e w2 ⟨rfl,rfl⟩;go_wp2_with fail;go_ret;exact⟨rfl,K1.o⟩
theorem ahz{g:FM}{c:FC}{K:ByteArray}(h:fR w fb g c K A mt l ay fix):
 Calls prog 76 #[BT fb 0] w fun e w'=>e=.returned (.bool (c.md&&l.isEmpty))/\w'=w:=by
 obtain⟨T,xv,fn,kx,iQ,MX,F⟩:=h.en.first
 have c3:w.cell? (GB fb 3)=some c.ev:=h.aq.cell 3;have c14:w.cell? (GB fb 14)=some (.bool c.md):=h.aq.cell 14;rw[kx]at c3;have F:=ab F;generalize c.md=md at*;generalize((l.head?.map (·.2)).getD 0)=fs at*;generalize l.isEmpty=le at*;clear h kx;go_in;go_wp2_with fail;refine(F.o).mono ?_;rintro e w1 ⟨rfl,rfl⟩
 cases md<;>cases le<;>(go_wp2_with fail;go_ret;exact⟨rfl,rfl⟩)
theorem abL{g:FM}{c:FC}{K:ByteArray}(h:fR w fb g c K A mt l ay fix):
 Calls prog 52 #[BT fb 0] w fun e w'=>e=.returned (GW ((l.head?.map (·.2)).getD c.pl))/\w'=w:=by
 obtain⟨T,xv,fn,kx,iQ,MX,F⟩:=h.en.first
 have c3:w.cell? (GB fb 3)=some c.ev:=h.aq.cell 3;have c7:w.cell? (GB fb 7)=some (GW c.pl):=h.aq.cell 7;rw[kx]at c3
 cases l with
 |nil=>
  have F:=ab F;generalize c.pl=pl at*;clear h kx;go_in;go_wp2_with fail;refine(F.o).mono ?_;rintro e w1 ⟨rfl,rfl⟩;go_wp2_with fail;go_ret;exact⟨rfl,rfl⟩
 |cons t ts=>
  have F:=ab F;generalize c.pl=pl at*;clear h kx;go_in;go_wp2_with fail;refine(F.o).mono ?_;rintro e w1 ⟨rfl,rfl⟩;go_wp2_with fail;go_ret;exact⟨rfl,rfl⟩
def FC.step(c:FC)(n:Int)(r:List bJ×Option Int):FC:=
 {c with ag:=decide (c.pl<c.re),pl:=c.pl+n,re:=max c.re (c.pl+n),ma:=if r.2.isSome then r.2.getD 0 else c.ma,mz:=if r.2.isSome then c.pl else c.mz,md:=c.md||r.2.isSome}
structure StF(w:World)(fb:Nat)(g:FM)(c:FC)(K:ByteArray)(A:Int)(mt:Bool)(l:List bJ)(ay fix:Nat->Prop)(d:Nat×Nat)(w':World)(cG:Nat->Prop):Prop where
 mem:fR w' fb g (c.step d.2 (bc g.ms A d.1 (qq g.u0 c.pl mt l))) K d.1 (mt||(bc g.ms A d.1 (qq g.u0 c.pl mt l)).2.isSome) (bc g.ms A d.1 (qq g.u0 c.pl mt l)).1 cG fix
 dt:cH (fun i=>ay i\/i=fb) cG w w'
def aav(fb:Nat)(T:TypeId)(xv:Value)(pl:Int)(W:World):Prop:=W.cell? (GB fb 3)=some (.iface T xv)/\W.cell? (GB fb 7)=some (GW pl)
theorem ao9{g:FM}{c:FC}{K:ByteArray}{d:Nat×Nat}(h:fR w fb g c K A mt l ay fix)(h0:0<=c.aE)(h1:c.aE<=c.pl)(h2:c.pl-c.aE<=K.size)(h3:c.pl<=1000000000000)(h4:0<=c.re/\c.re<=1000000000000)
 (hd:Lib.decodeGo (K.extract (c.pl-c.aE).toNat K.size)=d)(hr:d.1<=1114111)(hw:d.2<=4):
 Calls prog 75 #[BT fb 0] w fun e w'=>e=.returned (.tuple #[])/\∃cG,StF w fb g c K A mt l ay fix d w' cG:=by
 have H:=ab h;have p7:w.cell? (GB fb 7)=some (GW c.pl):=h.aq.cell 7;have p8:w.cell? (GB fb 8)=some (GW c.re):=h.aq.cell 8;have p9:w.cell? (GB fb 9)=some (.bool c.ag):=h.aq.cell 9;have f9:w.frozen? (GB fb 9)=false:=h.aq.frozen 9;clear h;go_in;go_wp2_with fail;go_region;have H1:Hid (fR (w.setCell (GB fb 9) (.bool (decide (c.pl<c.re)))).drew fb g {c with ag:=decide (c.pl<c.re)} K A mt l ay fix):=H.o.put (((aa.refl (fun i=>i=fb) w).setCell (p:=(GB fb 9)) (Or.inl rfl) _).drew) (H.o.aq.setCell 9 (.bool (decide (c.pl<c.re)))) ⟨rfl,rfl,rfl,rfl,rfl⟩;have G1:Hid (cH (fun i=>ay i\/i=fb) ay w (w.setCell (GB fb 9) (.bool (decide (c.pl<c.re)))).drew):=⟨((aa.refl _ w).setCell (p:=(GB fb 9)) (Or.inl (Or.inr rfl)) _).drew,fun i hi=>Or.inl (Or.inl hi)⟩;generalize(w.setCell (GB fb 9) (.bool (decide (c.pl<c.re)))).drew=w1 at*;clear H p7 p8 p9 f9;have q7:w1.cell? (GB fb 7)=some (GW c.pl):=H1.o.aq.cell 7;have F1:=ab (RT (pl:=c.pl) H1.o.aq (zN H1.o.kp) h0 h1 h2 h3);go_wp2_with fail;refine(F1.o).mono ?_;rintro e w2 ⟨⟨v,rfl,tf⟩,n,rfl⟩;have F2:=ab (aa8 (w:=w1.drewN n) (tf.new ((aa.refl _ w1).drewN n)) (H1.o.ma.jS.iR ((aa.refl _ w1).drewN n)));rw[show Lib.decodeGo (K.extract (c.pl-FC.aE {c with ag:=decide (c.pl<c.re)}).toNat K.size)=d from hd]at F2;clear tf F1;go_wp2_with fail;refine(F2.o).mono ?_;rintro e w3 ⟨rfl,k3⟩;have Ii:=((aa.refl ai w1).drewN n).trans k3;have H3:=ab (H1.o.new Ii);have G3:Hid (cH (fun i=>ay i\/i=fb) ay w w3):=⟨G1.o.kept.b_ Ii (fun i _ hx=>hx.elim),fun i hi=>Or.inl (Or.inl hi)⟩;clear F2 k3 Ii q7 H1 G1;obtain⟨T,xv,fn,kx,iQ,MX,F3⟩:=(H3.o.en.new (aa.refl _ w3).drew).step (place:=c.pl) (bh:=(d.1:Int)) (by omega);have F3:=ab F3
 have S1:Hid (∀W,aa ay w3 W->aav fb T xv c.pl W):=fun W k=>by
  have:=H3.o.aq.kept k (fun hx=>(H3.o.lC fb hx).1 rfl);exact⟨by rw[<-kx];exact this.cell 3,this.cell 7⟩
 clear kx;go_wp2_with fail;refine j_ (Cl (by kernel_rfl) (Ci (S:=aav fb T xv c.pl) _ _ _ _ ?_));have ak:=S1.o w3.drew (aa.refl _ _).drew;refine aj 0 29 (BT fb 0) ak ?_;refine aj 1 30 (BT fb 0) ak ?_;refine aj 2 31 (BT fb 3) ak ?_;refine aj 3 32 (.iface T xv) ak ?_;refine aj 4 33 (BT fb 0) ak ?_;refine aj 5 34 (BT fb 0) ak ?_;refine aj 6 35 (BT fb 7) ak ?_;refine aj 7 36 (GW c.pl) ak ?_;refine aj 8 37 (.int .i32 (d.1:Int)) ak ?_;refine aj 9 38 (.iface T xv) ak ?_;refine aj 10 39 (.iface T xv) ak ?_;simp only[Act.put,Aa,Ad,Ac];refine bR 11 fun K hK=>?_
 go_simp;refine(F3.o).mono ?_;rintro e w4 ⟨rfl,Iz,hE4,VA⟩;dsimp only;have DE:aa ay w3 w4:=((aa.refl ay w3).drew).trans VA.kept;have cF:=S1.o w4 DE;refine hK.o _ _ cF (fun _=>?_);clear hK K;have Vl:cH ay Iz w3 w4:=⟨DE,VA.aq⟩;have H4:=ab (H3.o.rR hE4 Vl);have G4:=ab (G3.o.trans Vl);clear H3 G3 Vl hE4 VA F3 S1 iQ MX ak;obtain⟨rs,kH⟩:∃x,x=(bc g.ms A d.1 (qq g.u0 c.pl mt l)).2.getD 0:=⟨_,rfl⟩
 obtain⟨rb,zu⟩:∃x,x=(bc g.ms A d.1 (qq g.u0 c.pl mt l)).2.isSome:=⟨_,rfl⟩
 rw[<-kH,<-zu];refine aj 12 28 (.tuple #[GW rs,.bool rb]) cF ?_;refine aj 13 41 (GW rs) cF ?_;refine aj 14 42 (.bool rb) cF ?_;refine aj 15 4 (GW rs) cF ?_;refine aj 16 5 (.bool rb) cF ?_;simp only[Act.put,Aa,Ad,Ac];refine At (by kernel_rfl) ?_ _;refine jE ?_;have HRS:=ab kH;have HRB:=ab zu;clear kH zu cF DE;go_simp;have q7:w4.cell? (GB fb 7)=some (GW c.pl):=H4.o.aq.cell 7;have f7:w4.frozen? (GB fb 7)=false:=H4.o.aq.frozen 7;have DA:IntKind.i64.wrap (c.pl+(d.2:Int))=c.pl+(d.2:Int):=AA (by omega) (by omega)
 cases rb with
 |false=>
  have B:=H4.o.aq.setCell 7 (GW (c.pl+(d.2:Int)));have q8:(w4.setCell (GB fb 7) (GW (c.pl+(d.2:Int)))).cell? (GB fb 8)=some (GW c.re):=B.cell 8;have r7:(w4.setCell (GB fb 7) (GW (c.pl+(d.2:Int)))).cell? (GB fb 7)=some (GW (c.pl+(d.2:Int))):=B.cell 7;have f8:(w4.setCell (GB fb 7) (GW (c.pl+(d.2:Int)))).frozen? (GB fb 8)=false:=B.frozen 8;have HB:=ab B;have KB:Hid (aa (fun i=>i=fb) w4 (w4.setCell (GB fb 7) (GW (c.pl+(d.2:Int))))):=(aa.refl (fun i=>i=fb) w4).setCell (p:=(GB fb 7)) (Or.inl rfl) _;clear B;go_wp2_with fail;generalize(w4.setCell (GB fb 7) (GW (c.pl+(d.2:Int))))=w5 at*;clear q7 f7;go_region;go_end0;have hk:aa (fun i=>i=fb) w4 (w5.setCell (GB fb 8) (GW (max c.re (c.pl+(d.2:Int))))).drew:=(KB.o.setCell (p:=(GB fb 8)) (Or.inl rfl) _).drew
  have e:c.step d.2 (bc g.ms A d.1 (qq g.u0 c.pl mt l))={c with ag:=decide (c.pl<c.re),pl:=c.pl+(d.2:Int),re:=max c.re (c.pl+(d.2:Int))}:=by
   unfold FC.step;rw[<-HRB.o];simp
  refine⟨rfl,Iz,⟨?_,⟨G4.o.kept.b_ hk (fun i _ hx=>Or.inr hx),G4.o.aq⟩⟩⟩;rw[e];exact H4.o.put hk (HB.o.setCell 8 _) ⟨rfl,rfl,rfl,rfl,rfl⟩
 |true=>
  have q12:w4.cell? (GB fb 12)=some (GW c.ma):=H4.o.aq.cell 12;have q13:w4.cell? (GB fb 13)=some (GW c.mz):=H4.o.aq.cell 13;have q14:w4.cell? (GB fb 14)=some (.bool c.md):=H4.o.aq.cell 14;have f12:w4.frozen? (GB fb 12)=false:=H4.o.aq.frozen 12;have f13:w4.frozen? (GB fb 13)=false:=H4.o.aq.frozen 13;have f14:w4.frozen? (GB fb 14)=false:=H4.o.aq.frozen 14;have B:=(((H4.o.aq.setCell 12 (GW rs)).setCell 13 (GW c.pl)).setCell 14 (.bool true)).setCell 7 (GW (c.pl+(d.2:Int)));have q8:((((w4.setCell (GB fb 12) (GW rs)).setCell (GB fb 13) (GW c.pl)).setCell (GB fb 14) (.bool true)).setCell (GB fb 7) (GW (c.pl+(d.2:Int)))).cell? (GB fb 8)=some (GW c.re):=B.cell 8;have r7:((((w4.setCell (GB fb 12) (GW rs)).setCell (GB fb 13) (GW c.pl)).setCell (GB fb 14) (.bool true)).setCell (GB fb 7) (GW (c.pl+(d.2:Int)))).cell? (GB fb 7)=some (GW (c.pl+(d.2:Int))):=B.cell 7;have f8:((((w4.setCell (GB fb 12) (GW rs)).setCell (GB fb 13) (GW c.pl)).setCell (GB fb 14) (.bool true)).setCell (GB fb 7) (GW (c.pl+(d.2:Int)))).frozen? (GB fb 8)=false:=B.frozen 8;have HB:=ab B;have KB:Hid (aa (fun i=>i=fb) w4 ((((w4.setCell (GB fb 12) (GW rs)).setCell (GB fb 13) (GW c.pl)).setCell (GB fb 14) (.bool true)).setCell (GB fb 7) (GW (c.pl+(d.2:Int))))):=((((aa.refl (fun i=>i=fb) w4).setCell (p:=(GB fb 12)) (Or.inl rfl) _).setCell (p:=(GB fb 13)) (Or.inl rfl) _).setCell (p:=(GB fb 14)) (Or.inl rfl) _).setCell (p:=(GB fb 7)) (Or.inl rfl) _;clear B;go_wp2_with fail;generalize((((w4.setCell (GB fb 12) (GW rs)).setCell (GB fb 13) (GW c.pl)).setCell (GB fb 14) (.bool true)).setCell (GB fb 7) (GW (c.pl+(d.2:Int))))=w5 at*;clear q7 f7 q12 q13 q14 f12 f13 f14;go_region;go_end0;have hk:aa (fun i=>i=fb) w4 (w5.setCell (GB fb 8) (GW (max c.re (c.pl+(d.2:Int))))).drew:=(KB.o.setCell (p:=(GB fb 8)) (Or.inl rfl) _).drew
  have e:c.step d.2 (bc g.ms A d.1 (qq g.u0 c.pl mt l))={c with ag:=decide (c.pl<c.re),pl:=c.pl+(d.2:Int),re:=max c.re (c.pl+(d.2:Int)),ma:=rs,mz:=c.pl,md:=true}:=by
   unfold FC.step;rw[<-HRB.o,<-HRS.o];simp
  refine⟨rfl,Iz,⟨?_,⟨G4.o.kept.b_ hk (fun i _ hx=>Or.inr hx),G4.o.aq⟩⟩⟩;rw[e];exact H4.o.put hk (HB.o.setCell 8 _) ⟨rfl,rfl,rfl,rfl,rfl⟩
