/- Package whole's Groups -/
import Derived.Test.YtpdnofhackjfdaaGreatDoorP40
set_option linter.all false
set_option maxRecDepth 100000
set_option maxHeartbeats 4000000
namespace Go.Proofs.YtpdnofhackjfdaaGreatDoor
open Go.Proofs.Tryz
open Go.RowKit Go.Maps
variable {mt:Bool} {X:ByteArray} {A pl x y:Int} {gs:List Int} {ms:List MS} {l:List bF} {b fb p u0:Nat} {O O' S fix au:Nat->Prop} {gv v:Value} {w w':World}
theorem afw{lo hi mb c G2 j:Nat}{vs:List Sv}{x:CX}{jC:List Int}(hM:jb w lo hi mb c vs ms)(gQ:eR ms)(hq:iz (G2:Int) ms)(dh:ms.length<=4001)(hs:x.s.size<=10000000)(IM:0<=x.aB/\x.aB<=1000000000000)(rM:u0<ms.length)(IE:G2<=100000)(dY:x.op=false)
 (hR:cW ms x (u0:Int) 0 (List.replicate (2*G2) (-1))=some (j,jC)):
 Calls prog 104 #[.agg #[.slice (some ⟨mb,0,none⟩) ms.length c,.int .i64 (u0:Int),.int .i64 (G2:Int)],.agg #[.string x.s,.int .i64 x.aB,.int .i32 x.ah,.int .i32 x.bh,.bool x.op]] w fun e w'=>∃gb,e=.returned (.slice (some ⟨gb,0,none⟩) (2*G2) (2*G2))/\w.heap.size<=gb/\aq w' gb (cH jC).toArray 3/\aa af w w':=by
 have HM:=ab hM;have pC:=ab gQ;have HQ:=ab hq;have HR:=ab hR;have Og:=ab dY;clear hM gQ hq hR dY;have K1:Hid (aa af w ((w.alloc (.cells #[.slice (some ⟨mb,0,none⟩) ms.length c,.int .i64 (u0:Int),.int .i64 (G2:Int)] 73)).alloc (.cells #[.string x.s,.int .i64 x.aB,.int .i32 x.ah,.int .i32 x.bh,.bool x.op] 105))):=((aa.refl af w).alloc _).alloc _;have cR:((w.alloc (.cells #[.slice (some ⟨mb,0,none⟩) ms.length c,.int .i64 (u0:Int),.int .i64 (G2:Int)] 73)).alloc (.cells #[.string x.s,.int .i64 x.aB,.int .i32 x.ah,.int .i32 x.bh,.bool x.op] 105)).heap.size=w.heap.size+1+1:=by simp
 go_in
 go_wp2_with fail
 generalize((w.alloc (.cells #[.slice (some ⟨mb,0,none⟩) ms.length c,.int .i64 (u0:Int),.int .i64 (G2:Int)] 73)).alloc (.cells #[.string x.s,.int .i64 x.aB,.int .i32 x.ah,.int .i32 x.bh,.bool x.op] 105))=w1 at*
 have F:=ab (ac2 (st:=(u0:Int)) (G:=(G2:Int)) (HM.out.kept K1.out) pC.out HQ.out dh hs IM);refine(F.out).mono ?_;rintro e w2 ⟨g,wf,wd,rfl,qx,E_,hO,k2⟩;obtain⟨e1,e2,e3,e4,e5,e6,e7,e8,e9,ve,sF,yh,DR,DS,DT⟩:=qx;have hz:bd g.x.s 0=0:=sC _;have F2:=acJ E_ hO (i0:=0) (j:=j) (u0:=u0) (G:=G2) (jC:=jC) (Am _) (by rw[E_.bg.zero];exact Ab _) e3 (by rw[e1];exact rM) e4 IE (by rw[e1,e2];exact HR.out);rw[hz]at F2;have F2:=ab F2;have mE:=ab (K1.out.trans k2);have HT:Hid ((g.x.op&&decide (g.x.n<=j))=false):=by show _=_;rw[e2,Og.out,Eo]
 have ki:w.heap.size<=g.ob/\w.heap.size<=g.WB:=by omega
 have gi:=k2.size;clear F hO E_ k2 hz;go_wp2_with fail;refine(F2.out).mono ?_;rintro e w3 ⟨hA,_,apa,wd3,_,_,k3⟩;obtain⟨gb,he,kO,z8⟩:=hA HT.out;subst he;have ax:Hid (aa af w w3/\w.heap.size<=gb):=⟨mE.out.bV k3 (fun i hi hx=>by omega),by have:=mE.out.size;omega⟩;have xQ:=ab z8;clear F2 hA k3 mE HT z8;go_wp2_with fail;go_ret;exact⟨gb,rfl,ax.out.2,xQ.out.kept ((aa.refl af w3).alloc _) (fun h=>h),ax.out.1.alloc _⟩
theorem yj:prog.elem 42=5:=by simp[Program.elem,underlying42]
theorem an1{K:ByteArray}(h:jL w v K)(h0:0<=x)(h1:x<=K.size):∃v',(∀W,(Instr.slice 42 v (some (.int .i64 x)) none none).run prog W=.ok v' W)/\jL w v' (K.extract x.toNat K.size)/\∀i,v'.ownBlock=some i->v.ownBlock=some i:=by
 have ht:prog.underlying 42=some (.slice (prog.elem 42)):=by rw[yj];exact underlying42
 obtain⟨n,rfl⟩:=Au h0;have aS:(K.extract n K.size).size=K.size-n:=extract_size K n K.size (Ab _);rcases h with⟨rfl,hz⟩|⟨b,off,cap,rfl,h2,h3⟩
 ·refine⟨.slice none 0 0,fun W=>?_,Or.inl ⟨rfl,by simp only[Ay];omega⟩,fun i hi=>hi⟩;rw[run_slice_l W _ _ _ _ ht .i64 _ h0 (by simpa using(show(n:Int)<=0 by omega)),yj,sizeOf5];have:n=0:=by omega
  subst this;simp[Result.andThen,sliced]
 ·simp only[Ay];refine⟨.slice (if cap=n then some ⟨b,off,none⟩else some ⟨b,off+n,none⟩) (K.size-n) (cap-n),fun W=>?_,?_,fun i hi=>?_⟩
  ·rw[run_slice_l W _ _ _ _ ht .i64 _ h0 h1,yj,sizeOf5];by_cases hc:cap=n
   ·simp[Result.andThen,sliced,hc]
   ·by_cases hn:n=0
    ·subst hn;simp[Result.andThen,sliced,hc,Addr.add]
    ·simp[Result.andThen,sliced,hc,Addr.add,hn]
  ·refine Or.inr ?_;by_cases hc:cap=n
   ·rw[if_pos hc];exact⟨b,off,cap-n,by rw[aS],by omega,fun j hj=>by omega⟩
   ·rw[if_neg hc];refine⟨b,off+n,cap-n,by rw[aS],by omega,fun j hj=>?_⟩;rw[vg K n K.size j (Ab _) (by omega),Dn];exact h3 (n+j) (by omega)
  ·by_cases hc:cap=n
   ·rw[if_pos hc]at hi;exact hi
   ·rw[if_neg hc]at hi;exact hi
theorem aeY{K:ByteArray}(h:jL w v K)(h0:0<=x)(hxy:x<=y)(h1:y<=K.size):∃v',(∀W,(Instr.slice 42 v (some (.int .i64 x)) (some (.int .i64 y)) none).run prog W=.ok v' W)/\jL w v' (K.extract x.toNat y.toNat)/\∀i,v'.ownBlock=some i->v.ownBlock=some i:=by
 have ht:prog.underlying 42=some (.slice (prog.elem 42)):=by rw[yj];exact underlying42
 obtain⟨n,rfl⟩:=Au h0;obtain⟨m,rfl⟩:=Au (show 0<=y by omega);have aS:(K.extract n m).size=m-n:=extract_size K n m (by omega);rcases h with⟨rfl,hz⟩|⟨b,off,cap,rfl,h2,h3⟩
 ·refine⟨.slice none 0 0,fun W=>?_,Or.inl ⟨rfl,by simp only[Ay];omega⟩,fun i hi=>hi⟩;rw[run_slice_lh W _ _ _ _ ht .i64 .i64 _ _ h0 hxy (by simpa using(show(m:Int)<=0 by omega)),yj,sizeOf5];have:n=0:=by omega
  have:m=0:=by omega
  subst n m;simp[Result.andThen,sliced]
 ·simp only[Ay];refine⟨.slice (if cap=n then some ⟨b,off,none⟩else some ⟨b,off+n,none⟩) (m-n) (cap-n),fun W=>?_,?_,fun i hi=>?_⟩
  ·rw[run_slice_lh W _ _ _ _ ht .i64 .i64 _ _ h0 hxy (by omega),yj,sizeOf5];by_cases hc:cap=n
   ·simp[Result.andThen,sliced,hc]
   ·by_cases hn:n=0
    ·subst hn;simp[Result.andThen,sliced,hc,Addr.add]
    ·simp[Result.andThen,sliced,hc,Addr.add,hn]
  ·refine Or.inr ?_;by_cases hc:cap=n
   ·rw[if_pos hc];exact⟨b,off,cap-n,by rw[aS],by omega,fun j hj=>by omega⟩
   ·rw[if_neg hc];refine⟨b,off+n,cap-n,by rw[aS],by omega,fun j hj=>?_⟩;rw[vg K n m j (by omega) (by omega),Dn];exact h3 (n+j) (by omega)
  ·by_cases hc:cap=n
   ·rw[if_pos hc]at hi;exact hi
   ·rw[if_neg hc]at hi;exact hi
theorem an2{K:ByteArray}(h:jL w v K)(h0:0<=y)(h1:y<=K.size):∃v',(∀W,(Instr.slice 42 v none (some (.int .i64 y)) none).run prog W=.ok v' W)/\jL w v' (K.extract 0 y.toNat):=by
 have ht:prog.underlying 42=some (.slice (prog.elem 42)):=by rw[yj];exact underlying42
 obtain⟨m,rfl⟩:=Au h0;have aS:(K.extract 0 m).size=m-0:=extract_size K 0 m (by omega);rcases h with⟨rfl,hz⟩|⟨b,off,cap,rfl,h2,h3⟩
 ·refine⟨.slice none 0 0,fun W=>?_,Or.inl ⟨rfl,by simp only[Ay];omega⟩⟩;rw[run_slice_h W _ _ _ _ ht .i64 _ h0 (by simpa using(show(m:Int)<=0 by omega)),yj,sizeOf5];have:m=0:=by omega
  subst m;simp[Result.andThen,sliced]
 ·simp only[Ay];refine⟨.slice (some ⟨b,off,none⟩) m cap,fun W=>?_,Or.inr ⟨b,off,cap,by rw[aS];rfl,by omega,fun j hj=>?_⟩⟩
  ·rw[run_slice_h W _ _ _ _ ht .i64 _ h0 (by omega),yj,sizeOf5];by_cases hc:cap=0
   ·subst hc;simp[Result.andThen,sliced]
   ·simp[Result.andThen,sliced,hc,Addr.add]
  ·rw[vg K 0 m j (by omega) (by omega),Ba];exact h3 j (by omega)
theorem aam{s:ByteArray}(h:jL w v s):(convert 42 9 v).run prog w=.ok (.string s) w:=by
 rcases h with⟨rfl,hz⟩|⟨b,off,cap,rfl,h2,h3⟩
 ·rw[Lib.run_convert_nil_bytes w _ _ _ 0 underlying42 underlying5 underlying9]
  have:s=⟨#[]⟩:=by
   apply E9
   exact Array.eq_empty_of_size_eq_zero hz
  rw[this]
 ·exact Lib.run_convert_whole w _ _ _ underlying42 underlying5 underlying9 b off s (fun i hi=>by rw[h3 i hi,Utf8W.get!_of_lt s i hi]) cap
theorem yW{base:Nat}{K:ByteArray}(h:w.ownsRow base 5 1 v K.size (jQ K)):jL w v K:=by
 rcases h.2 with⟨rfl,hz⟩|⟨g,cap,aL,rfl,a1,a2,a3,a4,a5,a6⟩
 ·exact Or.inl ⟨rfl,hz⟩
 ·refine Or.inr ⟨g,0,cap,rfl,a3,fun j hj=>?_⟩
  have hB:w.cell? ⟨g,0+j,none⟩=aL[j]? :=by
   rw[Ba];exact aq.cell a2 j
  rw[hB];have h1:=Z7 K hj;rw[<-a6,Nat.mul_one,Av hj]at h1;rw[<-h1];simp
def uG(w:World)(O:Nat->Prop)(gv:Value)(gs:List Int):Prop:=(gv=.slice none 0 0/\gs=[])\/∃gb,gv=.slice (some ⟨gb,0,none⟩) gs.length gs.length/\O gb/\aq w gb (cH gs).toArray 3
theorem uG.kept{K:Nat->Prop}(h:uG w O gv gs)(k:aa K w w')(hK:∀i,O i->¬K i):uG w' O gv gs:=by
 rcases h with h|⟨gb,h1,h2,h3⟩
 ·exact Or.inl h
 ·exact Or.inr ⟨gb,h1,h2,h3.kept k (hK gb h2)⟩
theorem uG.mono(h:uG w O gv gs)(hO:∀i,O i->O' i):uG w O' gv gs:=by
 rcases h with h|⟨gb,h1,h2,h3⟩
 ·exact Or.inl h
 ·exact Or.inr ⟨gb,h1,hO gb h2,h3⟩
def sI(X:ByteArray)(e:Ev)(gv:Value):List Value:=[.int .i64 (aN X e.a),.int .i64 (aN X e.b),gv,.string (X.extract (bd X e.a) (bd X e.b))]
def gN(X:ByteArray)(l:List (Ev×Value)):List Value:=l.flatMap fun p=>sI X p.1 p.2
structure eW(w:World)(O:Nat->Prop)(v:Value)(X:ByteArray)(l:List (Ev×Value)):Prop where
 row:w.ownsRow 0 46 4 v l.length (gN X l)
 Ha:∀i,v.ownBlock=some i->O i
 fE:∀p∈l,uG w O p.2 p.1.gs
 lt:∀i,O i->i<w.heap.size
theorem O8(X:ByteArray)(l:List (Ev×Value)):(gN X l).length=l.length*4:=by
 unfold gN;induction l with
 |nil=>rfl
 |cons p l ih=>rw[Di,Aj,ih];simp[sI];omega
theorem ahA(X:ByteArray)(l m:List (Ev×Value)):gN X (l++m)=gN X l++gN X m:=by unfold gN;simp
theorem eW.kept{K:Nat->Prop}{l:List (Ev×Value)}(h:eW w O v X l)(k:aa K w w')(hK:∀i,O i->¬K i):eW w' O v X l:=
 ⟨bR h.row k (fun b hb=>hK b (h.Ha b hb)),h.Ha,fun p hp=>(h.fE p hp).kept k hK,fun i hi=>Ar (h.lt i hi) k.size⟩
theorem eW.new{l:List (Ev×Value)}(h:eW w O v X l)(k:aa af w w'):eW w' O v X l:=h.kept k (fun _ _ h=>h)
theorem eW.nil(w:World)(X:ByteArray):eW w af (.slice none 0 0) X []:=⟨A7 _ _ _ _,fun i h=>(by cases h),fun p h=>(by cases h),fun i h=>h.elim⟩
theorem eW.cell{l:List (Ev×Value)}(h:eW w O v X l):(v=.slice none 0 0/\l=[])\/∃g cap,v=.slice (some ⟨g,0,none⟩) l.length cap/\l.length<=cap/\∀j u,(gN X l)[j]? =some u->w.cell? ((⟨g,0,none⟩:Addr).add j)=some u:=by
 rcases h.row.2 with⟨h1,h2⟩|⟨g,cap,aL,h1,a1,a2,a3,a4,a5,a6⟩
 ·exact Or.inl ⟨h1,Aw.1 h2⟩
 ·subst h1;exact Or.inr ⟨g,cap,rfl,a3,h.row.cells (g:=g) rfl⟩
theorem eW.QN{l:List (Ev×Value)}(h:eW w O v X l){cs:Array Value}(hb:aq w b cs 3):v.ownBlock≠some b:=fun e=>by
 rcases h.row.2 with⟨h1,_⟩|⟨g,cap,aL,h1,a1,a2,r⟩
 ·subst h1;simp[Value.ownBlock]at e
 ·subst h1;simp[Value.ownBlock]at e;subst e;unfold aq at hb;rw[a2]at hb;simp at hb
theorem uG.a_{K:Nat->Prop}(h:uG w O gv gs)(k:aa K w w')(hK:∀b cs,K b->¬aq w b cs 3):uG w' O gv gs:=by
 rcases h with h|⟨gb,h1,h2,h3⟩
 ·exact Or.inl h
 ·exact Or.inr ⟨gb,h1,h2,h3.kept k (fun hk=>hK gb _ hk h3)⟩
theorem eW.append{W:World}{O2:Nat->Prop}{v2 v':Value}{l m:List (Ev×Value)}(h:eW w O v X l)(h2:eW w O2 v2 X m)(k0:aa af w W)
 (bk:w'.ownsRow 0 46 4 v' (l.length+m.length) (gN X l++gN X m))(hg:W.grownBy w' v.ownBlock)(iT:v'.ownBlock=v.ownBlock\/v'.ownBlock=some W.heap.size):eW w' (fun i=>O i\/O2 i\/i=W.heap.size/\v'.ownBlock=some i) v' X (l++m)/\aa (fun i=>v.ownBlock=some i) w w':=by
 have k7:aa (fun j=>v.ownBlock=some j) w w':=(k0.mono (fun i hx=>hx.elim)).eN hg (fun j hj=>Or.inl hj);have hb:∀b cs,v.ownBlock=some b->¬aq w b cs 3:=fun b cs hv hB=>h.QN hB hv
 have hs:=k0.size;refine⟨⟨by rw[Aj,ahA];exact bk,fun i hi=>?_,fun p hp=>?_,fun i hi=>?_⟩,k7⟩
 ·rcases iT with e|e
  ·exact Or.inl (h.Ha i (by rw[<-e];exact hi))
  ·exact Or.inr (Or.inr ⟨by rw[hi]at e;exact C6 e,hi⟩)
 ·rcases Ap.1 hp with hp|hp
  ·exact((h.fE p hp).a_ k7 hb).mono (fun i hi=>Or.inl hi)
  ·exact((h2.fE p hp).a_ k7 hb).mono (fun i hi=>Or.inr (Or.inl hi))
 ·rcases hi with hi|hi|⟨_,hi⟩
  ·exact Ar (h.lt i hi) k7.size
  ·exact Ar (h2.lt i hi) k7.size
  ·exact(dw bk hi).2
theorem eW.mono{l:List (Ev×Value)}(h:eW w O v X l)(hO:∀i,O i->O' i)(hl:∀i,O' i->i<w.heap.size):eW w O' v X l:=
 ⟨h.row,fun i hi=>hO i (h.Ha i hi),fun p hp=>(h.fE p hp).mono hO,hl⟩
structure FC where
 mv:Value
 st:Int
 G:Int
 ev:Value
 kv:Value
 aB:Int
 ah:Int
 pl:Int
 re:Int
 ag:Bool
 fr:Int
 tl:Int
 ma:Int
 mz:Int
 md:Bool
 wn:Int
 ov:Bool
def FC.cells(c:FC):Array Value:=#[c.mv,.int .i64 c.st,.int .i64 c.G,c.ev,c.kv,.int .i64 c.aB,.int .i32 c.ah,.int .i64 c.pl,.int .i64 c.re,.bool c.ag,.int .i64 c.fr,.int .i64 c.tl,.int .i64 c.ma,.int .i64 c.mz,.bool c.md,.int .i64 c.wn,.bool c.ov]
theorem FC.wN(c:FC)(f t:Int):nu c.cells 10 f t=({c with fr:=f,tl:=t}:FC).cells:=rfl
structure FM where
 lo:Nat
 hi:Nat
 mb:Nat
 cc:Nat
 vs:List Sv
 ms:List MS
 u0:Nat
 G:Nat
def FM.mv(g:FM):Value:=.slice (some ⟨g.mb,0,none⟩) g.ms.length g.cc
def FM.cI(g:FM)(i:Nat):Prop:=(i=g.mb\/(g.lo<=i/\i<g.hi))\/(i=0\/i=1)
structure FM.Ok(g:FM):Prop where
 ft:eR g.ms
 q:iz (g.G:Int) g.ms
 bT:g.ms.length<=4001
 u0:g.u0<g.ms.length
 G:g.G<=100000
theorem jb.MG{g:FM}{K:Nat->Prop}(h:jb w g.lo g.hi g.mb g.cc g.vs g.ms)(k:aa K w w')(hK:∀i,K i->¬g.cI i):jb w' g.lo g.hi g.mb g.cc g.vs g.ms:=
 jb.Jj (g:=⟨0,0,0,g.lo,g.hi,g.mb,g.cc,g.vs,g.ms,0,0⟩) h k hK
structure fH(w:World)(fb:Nat)(g:FM)(c:FC)(K:ByteArray)(A:Int)(mt:Bool)(l:List bF)(au fix:Nat->Prop):Prop where
 ak:aq w fb c.cells 124
 ma:jb w g.lo g.hi g.mb g.cc g.vs g.ms
 mv:c.mv=g.mv
 st:c.st=(g.u0:Int)
 G:c.G=(g.G:Int)
 en:lZ w c.ev g.ms (g.u0:Int) A mt l au fix
 kp:w.ownsRow 0 5 1 c.kv K.size (jQ K)
 lj:∀i,au i->i≠fb/\c.kv.ownBlock≠some i/\¬g.cI i
 mZ:∀i,fix i\/g.cI i->i≠fb/\c.kv.ownBlock≠some i
 tI:c.kv.ownBlock≠some fb
def FO(fb:Nat)(c:FC)(au:Nat->Prop)(i:Nat):Prop:=au i\/i=fb\/c.kv.ownBlock=some i
theorem fH.kept{g:FM}{c:FC}{K:ByteArray}(h:fH w fb g c K A mt l au fix)(k:aa S w w')(hS:∀i,S i->¬FO fb c au i/\¬fix i/\¬g.cI i):fH w' fb g c K A mt l au fix where
 ak:=h.ak.kept k (fun hs=>(hS fb hs).1 (Or.inr (Or.inl rfl)))
 ma:=h.ma.MG k (fun i hi=>(hS i hi).2.2)
 mv:=h.mv
 st:=h.st
 G:=h.G
 en:=h.en.kept k (fun i hi=>⟨fun ho=>(hS i hi).1 (Or.inl ho),(hS i hi).2.1⟩)
 kp:=bR h.kp k (fun b hb hs=>(hS b hs).1 (Or.inr (Or.inr hb)))
 lj:=h.lj
 mZ:=h.mZ
 tI:=h.tI
theorem fH.new{g:FM}{c:FC}{K:ByteArray}(h:fH w fb g c K A mt l au fix)(k:aa af w w'):fH w' fb g c K A mt l au fix:=h.kept k (fun _ hx=>hx.elim)
theorem fH.put{g:FM}{c c':FC}{K:ByteArray}(h:fH w fb g c K A mt l au fix)(k:aa (fun i=>i=fb) w w')(hb:aq w' fb c'.cells 124)(e:c'.mv=c.mv/\c'.st=c.st/\c'.G=c.G/\c'.ev=c.ev/\c'.kv=c.kv):fH w' fb g c' K A mt l au fix where
 ak:=hb
 ma:=h.ma.MG k (fun i hi hm=>(h.mZ i (Or.inr hm)).1 hi)
 mv:=e.1.trans h.mv
 st:=e.2.1.trans h.st
 G:=e.2.2.1.trans h.G
 en:=by rw[e.2.2.2.1];exact h.en.kept k (fun i hi=>⟨fun ho=>(h.lj i ho).1 hi,fun hf=>(h.mZ i (Or.inl hf)).1 hi⟩)
 kp:=by rw[e.2.2.2.2];exact bR h.kp k (fun b hb hs=>h.tI (by rw[<-hs];exact hb))
 lj:=by rw[e.2.2.2.2];exact h.lj
 mZ:=by rw[e.2.2.2.2];exact h.mZ
 tI:=by rw[e.2.2.2.2];exact h.tI
theorem fH.rp{g:FM}{c:FC}{K:ByteArray}{A':Int}{mt':Bool}{l':List bF}{cJ:Nat->Prop}(h:fH w fb g c K A mt l au fix)(he:lZ w' c.ev g.ms (g.u0:Int) A' mt' l' cJ fix)(k:cF au cJ w w'):fH w' fb g c K A' mt' l' cJ fix where
 ak:=h.ak.kept k.kept (fun hs=>(h.lj fb hs).1 rfl)
 ma:=h.ma.MG k.kept (fun i hi=>(h.lj i hi).2.2)
 mv:=h.mv
 st:=h.st
 G:=h.G
 en:=he
 kp:=bR h.kp k.kept (fun b hb hs=>(h.lj b hs).2.1 hb)
 lj i hi:=by
  rcases k.ak i hi with ho|hn
  ·exact h.lj i ho
  ·have h1:=h.ak.lt;refine⟨by omega,fun e=>by have:=(dw h.kp e).2;omega,fun hm=>?_⟩;have h2:=h.ma.le;have h3:=h.ma.jK.lt;have h4:=h.ma.ic.lt;rcases hm with(hm|hm)|(hm|hm)<;>omega
 mZ:=h.mZ
 tI:=h.tI
structure bZ where
 f:Nat
 b:Nat
 i:Nat
 r:Nat
 aX:Nat
 l:List bF
 mt:Option (Int×Nat)
 told:Int
def bZ.K(s:bZ)(X:ByteArray):ByteArray:=X.extract (bd X s.f) s.aX
structure mV(ms:List MS)(u0:Nat)(X:ByteArray)(s:bZ):Prop where
 rp:pz ms X u0 s.b s.i s.l s.mt
 low:wE X s.f s.i s.l s.mt
 ir:s.i<=s.r
 rn:s.r<=(aF X).length
 rf:bd X s.r<=s.aX
 fx:s.aX<=X.size
 sz:X.size<=10000000
structure NP(X:ByteArray)(s:bZ)(c:FC):Prop where
 aB:c.aB=aN X s.f
 jV:uY X s.f c.ah
 pl:c.pl=aN X s.i
 re:c.re=aN X s.r
 tl:c.tl=s.told
 md:c.md=s.mt.isSome
 mt:∀a j,s.mt=some (a,j)->c.ma=a/\c.mz=aN X j
 ov:c.ov=false
structure jz(w:World)(fb:Nat)(g:FM)(X:ByteArray)(s:bZ)(c:FC)(au fix:Nat->Prop):Prop where
 mem:∃A,fH w fb g c (s.K X) A s.mt.isSome s.l au fix/\pw g.ms ((aM X).ahead s.i) A
 fc:NP X s c
 ok:mV g.ms g.u0 X s
theorem jz.kept{g:FM}{s:bZ}{c:FC}(h:jz w fb g X s c au fix)(k:aa S w w')(hS:∀i,S i->¬FO fb c au i/\¬fix i/\¬g.cI i):jz w' fb g X s c au fix:=by
 obtain⟨A,h1,h2⟩:=h.mem;exact⟨⟨A,h1.kept k hS,h2⟩,h.fc,h.ok⟩
theorem jz.new{g:FM}{s:bZ}{c:FC}(h:jz w fb g X s c au fix)(k:aa af w w'):jz w' fb g X s c au fix:=h.kept k (fun _ hx=>hx.elim)
theorem mV.yg{s:bZ}(h:mV ms u0 X s):bd X s.f<=bd X s.i/\bd X s.i<=bd X s.r/\bd X s.r<=s.aX/\s.aX<=X.size/\s.i<=(aF X).length/\(s.K X).size=s.aX-bd X s.f:=
 ⟨fY X h.low.le,fY X h.ir,h.rf,h.fx,by have:=h.ir;have:=h.rn;omega,extract_size X _ _ h.fx⟩
theorem bZ.from_{s:bZ}(h0:bd X s.f<=p)(h1:p<=s.aX)(hx:s.aX<=X.size):(s.K X).extract (p-bd X s.f) (s.K X).size=X.extract p s.aX:=by
 unfold bZ.K;rw[extract_size X _ _ hx,O9 X _ _ _ _ (by omega)];congr 1<;>omega
theorem bZ.range{s:bZ}{q:Nat}(h0:bd X s.f<=p)(h1:p<=q)(h2:q<=s.aX)(hx:s.aX<=X.size):(s.K X).extract (p-bd X s.f) (q-bd X s.f)=X.extract p q:=by
 unfold bZ.K;rw[O9 X _ _ _ _ (by omega)];congr 1<;>omega
def bZ.step(ms:List MS)(u0:Nat)(X:ByteArray)(A:Int)(s:bZ):bZ:=
 {s with i:=s.i+1,r:=max s.r (s.i+1),l:=(aZ ms A ((aM X).bu s.i) (jT u0 (aN X s.i) s.mt.isSome s.l)).1,mt:=uv s.i (aZ ms A ((aM X).bu s.i) (jT u0 (aN X s.i) s.mt.isSome s.l)).2 s.mt}
theorem mV.step(hg:eR ms)(hu:u0<ms.length){s:bZ}(h:mV ms u0 X s)(hA:pw ms ((aM X).ahead s.i) A)(hi:s.i<(aF X).length)(hf:bd X (s.i+1)<=s.aX):mV ms u0 X (s.step ms u0 X A) where
 rp:=h.rp.step hg hu hi hA
 low:=h.low.step hg h.rp hu hi hA
 ir:=by show s.i+1<=max s.r (s.i+1);omega
 rn:=by have:=h.rn;show max s.r (s.i+1)<=_;omega
 rf:=by
  show bd X (max s.r (s.i+1))<=s.aX
  rcases Nat.le_total s.r (s.i+1)with h1|h1
  ·rw[Nat.max_eq_right h1];exact hf
  ·rw[Nat.max_eq_left h1];exact h.rf
 fx:=h.fx
 sz:=h.sz
def bZ.jg(s:bZ)(b:Nat)(told:Int):bZ:={s with b:=b,i:=b,l:=[],mt:=none,told:=told}
theorem mV.jg{s:bZ}(h:mV ms u0 X s)(told:Int)(h0:s.f<=b)(h1:b<=s.r):mV ms u0 X (s.jg b told) where
 rp:=pz.begin ms X u0 b (by have:=h.rn;omega)
 low:=⟨h0,fun t ht=>(by cases ht),fun a j hm=>(by cases hm)⟩
 ir:=h1
 rn:=h.rn
 rf:=h.rf
 fx:=h.fx
 sz:=h.sz
def bZ.DQ(s:bZ)(f:Nat):bZ:={s with f:=f}
theorem mV.DQ{s:bZ}(h:mV ms u0 X s){f:Nat}(hl:wE X f s.i s.l s.mt):mV ms u0 X (s.DQ f):=⟨h.rp,hl,h.ir,h.rn,h.rf,h.fx,h.sz⟩
def bZ.eV(s:bZ)(n:Nat):bZ:={s with aX:=s.aX+n}
theorem mV.eV{s:bZ}(h:mV ms u0 X s){n:Nat}(hn:s.aX+n<=X.size):mV ms u0 X (s.eV n):=⟨h.rp,h.low,h.ir,h.rn,by have:=h.rf;show bd X s.r<=s.aX+n;omega,hn,h.sz⟩
def bZ.rest(ms:List MS)(u0 G:Nat)(X:ByteArray)(s:bZ):List Ev:=(eM (eG ms (aM X) u0 G) (aF X).length (aN X) false s.b s.told).1
theorem zm(h0: -9223372036854775808<=x)(h1:x<=9223372036854775807):IntKind.i64.wrap x=x:=by
 rw[Cv];omega
theorem Qz{c:FC}{K:ByteArray}(hB:aq w fb c.cells 124)(hK:jL w c.kv K)(h0:0<=c.aB)(h1:c.aB<=pl)(h2:pl-c.aB<=K.size)(h3:pl<=1000000000000):
 Calls prog 74 #[.pointer (some ⟨fb,0,none⟩),.int .i64 pl] w fun e w'=>(∃v,e=.returned v/\jL w v (K.extract (pl-c.aB).toNat K.size))/\∃n,w'=w.drewN n:=by
 obtain⟨v',fM,hb,_⟩:=an1 hK (x:=pl-c.aB) (by omega) h2;have c4:w.cell? ⟨fb,4,none⟩=some c.kv:=hB.cell 4;have c5:w.cell? ⟨fb,5,none⟩=some (.int .i64 c.aB):=hB.cell 5;have HB:=ab hb;generalize c.kv=kv at*;generalize c.aB=bg at*;clear hB hK hb h2;go_in;go_wp2_with fail;go_quiet (fail);go_wp2_with fail;go_ret;exact⟨⟨v',rfl,HB.out⟩,nq,rfl⟩
def nT(c:FC)(K:ByteArray)(pl:Int):Int:=if pl=c.aB then c.ah else pW ((Lib.decodeLastL (K.extract 0 (pl-c.aB).toNat).data.toList).1:Int)
def XF(fb:Nat)(kv:Value)(bg:Int)(W:World):Prop:=W.cell? ⟨fb,4,none⟩=some kv/\W.cell? ⟨fb,5,none⟩=some (.int .i64 bg)
theorem Td{c:FC}{K:ByteArray}(hB:aq w fb c.cells 124)(hK:jL w c.kv K)(hT:ik w)(h0:0<=c.aB)(h1:c.aB<=pl)(h2:pl-c.aB<=K.size)(h3:pl<=1000000000000)(h4:K.size<=1000000000000):
 Calls prog 105 #[.pointer (some ⟨fb,0,none⟩),.int .i64 pl] w fun e w'=>e=.returned (.int .i32 (nT c K pl))/\aa af w w':=by
 unfold nT;have c5:w.cell? ⟨fb,5,none⟩=some (.int .i64 c.aB):=hB.cell 5;by_cases he:pl=c.aB
 ·rw[if_pos he];have c6:w.cell? ⟨fb,6,none⟩=some (.int .i32 c.ah):=hB.cell 6;generalize c.aB=bg at*;generalize c.ah=ah at*;subst he;clear hB hK hT h2;go_in;go_wp2_with fail;go_ret;exact⟨rfl,aa.refl _ _⟩
 ·rw[if_neg he];obtain⟨v',fM,hb⟩:=an2 hK (y:=pl-c.aB) (by omega) h2;have hz:(K.extract 0 (pl-c.aB).toNat).size=(pl-c.aB).toNat-0:=extract_size K 0 _ (by omega);have F:=ab fun(W:World) (k:aa af w W)=>ahf (hb.new k) (by omega) (by omega) (hT.iU k)
  have S1:Hid (∀W,aa af w W->XF fb c.kv c.aB W):=fun W k=>by
   have:=hB.kept k (fun hx=>hx);exact⟨this.cell 4,this.cell 5⟩
  have az:(pl==c.aB)=false:=by simpa using he
  have rO:IntKind.i64.wrap (pl-c.aB)=pl-c.aB:=zm (by omega) (by omega);generalize((Lib.decodeLastL (K.extract 0 (pl-c.aB).toNat).data.toList).1:Int)=la at*;generalize((Lib.decodeLastL (K.extract 0 (pl-c.aB).toNat).data.toList).2:Int)=QF at*;generalize c.kv=kv at*;generalize c.aB=bg at*;clear hB hK hT hb hz h2;go_in;go_wp2_with fail;refine jW (Cf (by kernel_rfl) (Cd (S:=XF fb kv bg) _ _ _ _ ?_));have aj:=S1.out w.drew (aa.refl _ _).drew;refine ai 0 18 (.pointer (some ⟨fb,0,none⟩)) aj ?_;refine ai 1 19 (.pointer (some ⟨fb,0,none⟩)) aj ?_;refine ai 2 20 (.pointer (some ⟨fb,4,none⟩)) aj ?_;refine ai 3 21 kv aj ?_;refine ai 4 22 (.int .i64 pl) aj ?_;refine ai 5 23 (.pointer (some ⟨fb,0,none⟩)) aj ?_;refine ai 6 24 (.pointer (some ⟨fb,0,none⟩)) aj ?_;refine ai 7 25 (.pointer (some ⟨fb,5,none⟩)) aj ?_;refine ai 8 26 (.int .i64 bg) aj ?_;refine ai 9 27 (.int .i64 (pl-bg)) aj ?_;refine ai 10 28 v' aj ?_;simp only[Act.put,Aa,Ad,Ac];refine bN 11 fun K hK=>?_
  go_simp;refine(F.out _ (aa.refl _ _).drew).mono ?_;rintro e w1 ⟨rfl,k1⟩;dsimp only;have K1:Hid (aa af w w1):=((aa.refl af w).drew).trans k1;have eO:=S1.out w1 K1.out;refine hK.out _ _ eO (fun _=>?_);clear hK K F k1;refine ai 12 17 (.tuple #[.int .i32 la,.int .i64 QF]) eO ?_;refine ai 13 30 (.int .i32 la) eO ?_;refine ai 14 31 (.int .i64 QF) eO ?_;refine ai 15 5 (.int .i32 la) eO ?_;refine ai 16 6 (.int .i64 QF) eO ?_;simp only[Act.put,Aa,Ad,Ac];refine At (by kernel_rfl) ?_ _;refine jw ?_;clear S1 aj eO;go_simp;go_wp2_with fail;refine(Zy w1 la).mono ?_;rintro e w2 ⟨rfl,rfl⟩;go_wp2_with fail;go_ret;exact⟨rfl,K1.out⟩
theorem agK{g:FM}{c:FC}{K:ByteArray}(h:fH w fb g c K A mt l au fix):
 Calls prog 76 #[.pointer (some ⟨fb,0,none⟩)] w fun e w'=>e=.returned (.bool (c.md&&l.isEmpty))/\w'=w:=by
 obtain⟨T,xv,fn,ke,iF,LN,F⟩:=h.en.first
 have c3:w.cell? ⟨fb,3,none⟩=some c.ev:=h.ak.cell 3;have c14:w.cell? ⟨fb,14,none⟩=some (.bool c.md):=h.ak.cell 14;rw[ke]at c3;have F:=ab F;generalize c.md=md at*;generalize((l.head?.map (·.2)).getD 0)=fs at*;generalize l.isEmpty=le at*;clear h ke;go_in;go_wp2_with fail;refine(F.out).mono ?_;rintro e w1 ⟨rfl,rfl⟩
 cases md<;>cases le<;>(go_wp2_with fail;go_ret;exact⟨rfl,rfl⟩)
theorem aa5{g:FM}{c:FC}{K:ByteArray}(h:fH w fb g c K A mt l au fix):
 Calls prog 52 #[.pointer (some ⟨fb,0,none⟩)] w fun e w'=>e=.returned (.int .i64 ((l.head?.map (·.2)).getD c.pl))/\w'=w:=by
 obtain⟨T,xv,fn,ke,iF,LN,F⟩:=h.en.first
 have c3:w.cell? ⟨fb,3,none⟩=some c.ev:=h.ak.cell 3;have c7:w.cell? ⟨fb,7,none⟩=some (.int .i64 c.pl):=h.ak.cell 7;rw[ke]at c3
 cases l with
 |nil=>
  have F:=ab F;generalize c.pl=pl at*;clear h ke;go_in;go_wp2_with fail;refine(F.out).mono ?_;rintro e w1 ⟨rfl,rfl⟩;go_wp2_with fail;go_ret;exact⟨rfl,rfl⟩
 |cons t ts=>
  have F:=ab F;generalize c.pl=pl at*;clear h ke;go_in;go_wp2_with fail;refine(F.out).mono ?_;rintro e w1 ⟨rfl,rfl⟩;go_wp2_with fail;go_ret;exact⟨rfl,rfl⟩
def FC.step(c:FC)(n:Int)(r:List bF×Option Int):FC:=
 {c with ag:=decide (c.pl<c.re),pl:=c.pl+n,re:=max c.re (c.pl+n),ma:=if r.2.isSome then r.2.getD 0 else c.ma,mz:=if r.2.isSome then c.pl else c.mz,md:=c.md||r.2.isSome}
structure StF(w:World)(fb:Nat)(g:FM)(c:FC)(K:ByteArray)(A:Int)(mt:Bool)(l:List bF)(au fix:Nat->Prop)(d:Nat×Nat)(w':World)(cJ:Nat->Prop):Prop where
 mem:fH w' fb g (c.step d.2 (aZ g.ms A d.1 (pU g.u0 c.pl mt l))) K d.1 (mt||(aZ g.ms A d.1 (pU g.u0 c.pl mt l)).2.isSome) (aZ g.ms A d.1 (pU g.u0 c.pl mt l)).1 cJ fix
 dD:cF (fun i=>au i\/i=fb) cJ w w'
def ZB(fb:Nat)(T:TypeId)(xv:Value)(pl:Int)(W:World):Prop:=W.cell? ⟨fb,3,none⟩=some (.iface T xv)/\W.cell? ⟨fb,7,none⟩=some (.int .i64 pl)
theorem anX{g:FM}{c:FC}{K:ByteArray}{d:Nat×Nat}(h:fH w fb g c K A mt l au fix)(h0:0<=c.aB)(h1:c.aB<=c.pl)(h2:c.pl-c.aB<=K.size)(h3:c.pl<=1000000000000)(h4:0<=c.re/\c.re<=1000000000000)
 (hd:Lib.decodeGo (K.extract (c.pl-c.aB).toNat K.size)=d)(hr:d.1<=1114111)(hw:d.2<=4):
 Calls prog 75 #[.pointer (some ⟨fb,0,none⟩)] w fun e w'=>e=.returned (.tuple #[])/\∃cJ,StF w fb g c K A mt l au fix d w' cJ:=by
 have H:=ab h;have p7:w.cell? ⟨fb,7,none⟩=some (.int .i64 c.pl):=h.ak.cell 7;have p8:w.cell? ⟨fb,8,none⟩=some (.int .i64 c.re):=h.ak.cell 8;have p9:w.cell? ⟨fb,9,none⟩=some (.bool c.ag):=h.ak.cell 9;have f9:w.frozen? ⟨fb,9,none⟩=false:=h.ak.frozen 9;clear h;go_in;go_wp2_with fail;go_region;have H1:Hid (fH (w.setCell ⟨fb,9,none⟩ (.bool (decide (c.pl<c.re)))).drew fb g {c with ag:=decide (c.pl<c.re)} K A mt l au fix):=H.out.put (((aa.refl (fun i=>i=fb) w).setCell (p:=⟨fb,9,none⟩) (Or.inl rfl) _).drew) (H.out.ak.setCell 9 (.bool (decide (c.pl<c.re)))) ⟨rfl,rfl,rfl,rfl,rfl⟩;have G1:Hid (cF (fun i=>au i\/i=fb) au w (w.setCell ⟨fb,9,none⟩ (.bool (decide (c.pl<c.re)))).drew):=⟨((aa.refl _ w).setCell (p:=⟨fb,9,none⟩) (Or.inl (Or.inr rfl)) _).drew,fun i hi=>Or.inl (Or.inl hi)⟩;generalize(w.setCell ⟨fb,9,none⟩ (.bool (decide (c.pl<c.re)))).drew=w1 at*;clear H p7 p8 p9 f9;have q7:w1.cell? ⟨fb,7,none⟩=some (.int .i64 c.pl):=H1.out.ak.cell 7;have F1:=ab (Qz (pl:=c.pl) H1.out.ak (yW H1.out.kp) h0 h1 h2 h3);go_wp2_with fail;refine(F1.out).mono ?_;rintro e w2 ⟨⟨v,rfl,sN⟩,n,rfl⟩;have F2:=ab (aat (w:=w1.drewN n) (sN.new ((aa.refl _ w1).drewN n)) (H1.out.ma.jK.iU ((aa.refl _ w1).drewN n)));rw[show Lib.decodeGo (K.extract (c.pl-FC.aB {c with ag:=decide (c.pl<c.re)}).toNat K.size)=d from hd]at F2;clear sN F1;go_wp2_with fail;refine(F2.out).mono ?_;rintro e w3 ⟨rfl,k3⟩;have Gy:=((aa.refl af w1).drewN n).trans k3;have H3:=ab (H1.out.new Gy);have G3:Hid (cF (fun i=>au i\/i=fb) au w w3):=⟨G1.out.kept.bV Gy (fun i _ hx=>hx.elim),fun i hi=>Or.inl (Or.inl hi)⟩;clear F2 k3 Gy q7 H1 G1;obtain⟨T,xv,fn,ke,iF,LN,F3⟩:=(H3.out.en.new (aa.refl _ w3).drew).step (place:=c.pl) (bh:=(d.1:Int)) (by omega);have F3:=ab F3
 have S1:Hid (∀W,aa au w3 W->ZB fb T xv c.pl W):=fun W k=>by
  have:=H3.out.ak.kept k (fun hx=>(H3.out.lj fb hx).1 rfl);exact⟨by rw[<-ke];exact this.cell 3,this.cell 7⟩
 clear ke;go_wp2_with fail;refine jW (Cf (by kernel_rfl) (Cd (S:=ZB fb T xv c.pl) _ _ _ _ ?_));have aj:=S1.out w3.drew (aa.refl _ _).drew;refine ai 0 29 (.pointer (some ⟨fb,0,none⟩)) aj ?_;refine ai 1 30 (.pointer (some ⟨fb,0,none⟩)) aj ?_;refine ai 2 31 (.pointer (some ⟨fb,3,none⟩)) aj ?_;refine ai 3 32 (.iface T xv) aj ?_;refine ai 4 33 (.pointer (some ⟨fb,0,none⟩)) aj ?_;refine ai 5 34 (.pointer (some ⟨fb,0,none⟩)) aj ?_;refine ai 6 35 (.pointer (some ⟨fb,7,none⟩)) aj ?_;refine ai 7 36 (.int .i64 c.pl) aj ?_;refine ai 8 37 (.int .i32 (d.1:Int)) aj ?_;refine ai 9 38 (.iface T xv) aj ?_;refine ai 10 39 (.iface T xv) aj ?_;simp only[Act.put,Aa,Ad,Ac];refine bN 11 fun K hK=>?_
 go_simp;refine(F3.out).mono ?_;rintro e w4 ⟨rfl,GZ,hE4,Ud⟩;dsimp only;have BA:aa au w3 w4:=((aa.refl au w3).drew).trans Ud.kept;have cw:=S1.out w4 BA;refine hK.out _ _ cw (fun _=>?_);clear hK K;have TZ:cF au GZ w3 w4:=⟨BA,Ud.ak⟩;have H4:=ab (H3.out.rp hE4 TZ);have G4:=ab (G3.out.trans TZ);clear H3 G3 TZ hE4 Ud F3 S1 iF LN aj;obtain⟨rs,jv⟩:∃x,x=(aZ g.ms A d.1 (pU g.u0 c.pl mt l)).2.getD 0:=⟨_,rfl⟩
 obtain⟨rb,AQ⟩:∃x,x=(aZ g.ms A d.1 (pU g.u0 c.pl mt l)).2.isSome:=⟨_,rfl⟩
 rw[<-jv,<-AQ];refine ai 12 28 (.tuple #[.int .i64 rs,.bool rb]) cw ?_;refine ai 13 41 (.int .i64 rs) cw ?_;refine ai 14 42 (.bool rb) cw ?_;refine ai 15 4 (.int .i64 rs) cw ?_;refine ai 16 5 (.bool rb) cw ?_;simp only[Act.put,Aa,Ad,Ac];refine At (by kernel_rfl) ?_ _;refine jw ?_;have HRS:=ab jv;have YW:=ab AQ;clear jv AQ cw BA;go_simp;have q7:w4.cell? ⟨fb,7,none⟩=some (.int .i64 c.pl):=H4.out.ak.cell 7;have f7:w4.frozen? ⟨fb,7,none⟩=false:=H4.out.ak.frozen 7;have rO:IntKind.i64.wrap (c.pl+(d.2:Int))=c.pl+(d.2:Int):=zm (by omega) (by omega)
 cases rb with
 |false=>
  have B:=H4.out.ak.setCell 7 (.int .i64 (c.pl+(d.2:Int)));have q8:(w4.setCell ⟨fb,7,none⟩ (.int .i64 (c.pl+(d.2:Int)))).cell? ⟨fb,8,none⟩=some (.int .i64 c.re):=B.cell 8;have r7:(w4.setCell ⟨fb,7,none⟩ (.int .i64 (c.pl+(d.2:Int)))).cell? ⟨fb,7,none⟩=some (.int .i64 (c.pl+(d.2:Int))):=B.cell 7;have f8:(w4.setCell ⟨fb,7,none⟩ (.int .i64 (c.pl+(d.2:Int)))).frozen? ⟨fb,8,none⟩=false:=B.frozen 8;have HB:=ab B;have KB:Hid (aa (fun i=>i=fb) w4 (w4.setCell ⟨fb,7,none⟩ (.int .i64 (c.pl+(d.2:Int))))):=(aa.refl (fun i=>i=fb) w4).setCell (p:=⟨fb,7,none⟩) (Or.inl rfl) _;clear B;go_wp2_with fail;generalize(w4.setCell ⟨fb,7,none⟩ (.int .i64 (c.pl+(d.2:Int))))=w5 at*;clear q7 f7;go_region;go_end0;have hk:aa (fun i=>i=fb) w4 (w5.setCell ⟨fb,8,none⟩ (.int .i64 (max c.re (c.pl+(d.2:Int))))).drew:=(KB.out.setCell (p:=⟨fb,8,none⟩) (Or.inl rfl) _).drew
  have e:c.step d.2 (aZ g.ms A d.1 (pU g.u0 c.pl mt l))={c with ag:=decide (c.pl<c.re),pl:=c.pl+(d.2:Int),re:=max c.re (c.pl+(d.2:Int))}:=by
   unfold FC.step;rw[<-YW.out];simp
  refine⟨rfl,GZ,⟨?_,⟨G4.out.kept.bV hk (fun i _ hx=>Or.inr hx),G4.out.ak⟩⟩⟩;rw[e];exact H4.out.put hk (HB.out.setCell 8 _) ⟨rfl,rfl,rfl,rfl,rfl⟩
 |true=>
  have q12:w4.cell? ⟨fb,12,none⟩=some (.int .i64 c.ma):=H4.out.ak.cell 12;have q13:w4.cell? ⟨fb,13,none⟩=some (.int .i64 c.mz):=H4.out.ak.cell 13;have q14:w4.cell? ⟨fb,14,none⟩=some (.bool c.md):=H4.out.ak.cell 14;have f12:w4.frozen? ⟨fb,12,none⟩=false:=H4.out.ak.frozen 12;have f13:w4.frozen? ⟨fb,13,none⟩=false:=H4.out.ak.frozen 13;have f14:w4.frozen? ⟨fb,14,none⟩=false:=H4.out.ak.frozen 14;have B:=(((H4.out.ak.setCell 12 (.int .i64 rs)).setCell 13 (.int .i64 c.pl)).setCell 14 (.bool true)).setCell 7 (.int .i64 (c.pl+(d.2:Int)));have q8:((((w4.setCell ⟨fb,12,none⟩ (.int .i64 rs)).setCell ⟨fb,13,none⟩ (.int .i64 c.pl)).setCell ⟨fb,14,none⟩ (.bool true)).setCell ⟨fb,7,none⟩ (.int .i64 (c.pl+(d.2:Int)))).cell? ⟨fb,8,none⟩=some (.int .i64 c.re):=B.cell 8;have r7:((((w4.setCell ⟨fb,12,none⟩ (.int .i64 rs)).setCell ⟨fb,13,none⟩ (.int .i64 c.pl)).setCell ⟨fb,14,none⟩ (.bool true)).setCell ⟨fb,7,none⟩ (.int .i64 (c.pl+(d.2:Int)))).cell? ⟨fb,7,none⟩=some (.int .i64 (c.pl+(d.2:Int))):=B.cell 7;have f8:((((w4.setCell ⟨fb,12,none⟩ (.int .i64 rs)).setCell ⟨fb,13,none⟩ (.int .i64 c.pl)).setCell ⟨fb,14,none⟩ (.bool true)).setCell ⟨fb,7,none⟩ (.int .i64 (c.pl+(d.2:Int)))).frozen? ⟨fb,8,none⟩=false:=B.frozen 8;have HB:=ab B;have KB:Hid (aa (fun i=>i=fb) w4 ((((w4.setCell ⟨fb,12,none⟩ (.int .i64 rs)).setCell ⟨fb,13,none⟩ (.int .i64 c.pl)).setCell ⟨fb,14,none⟩ (.bool true)).setCell ⟨fb,7,none⟩ (.int .i64 (c.pl+(d.2:Int))))):=((((aa.refl (fun i=>i=fb) w4).setCell (p:=⟨fb,12,none⟩) (Or.inl rfl) _).setCell (p:=⟨fb,13,none⟩) (Or.inl rfl) _).setCell (p:=⟨fb,14,none⟩) (Or.inl rfl) _).setCell (p:=⟨fb,7,none⟩) (Or.inl rfl) _;clear B;go_wp2_with fail;generalize((((w4.setCell ⟨fb,12,none⟩ (.int .i64 rs)).setCell ⟨fb,13,none⟩ (.int .i64 c.pl)).setCell ⟨fb,14,none⟩ (.bool true)).setCell ⟨fb,7,none⟩ (.int .i64 (c.pl+(d.2:Int))))=w5 at*;clear q7 f7 q12 q13 q14 f12 f13 f14;go_region;go_end0;have hk:aa (fun i=>i=fb) w4 (w5.setCell ⟨fb,8,none⟩ (.int .i64 (max c.re (c.pl+(d.2:Int))))).drew:=(KB.out.setCell (p:=⟨fb,8,none⟩) (Or.inl rfl) _).drew
  have e:c.step d.2 (aZ g.ms A d.1 (pU g.u0 c.pl mt l))={c with ag:=decide (c.pl<c.re),pl:=c.pl+(d.2:Int),re:=max c.re (c.pl+(d.2:Int)),ma:=rs,mz:=c.pl,md:=true}:=by
   unfold FC.step;rw[<-YW.out,<-HRS.out];simp
  refine⟨rfl,GZ,⟨?_,⟨G4.out.kept.bV hk (fun i _ hx=>Or.inr hx),G4.out.ak⟩⟩⟩;rw[e];exact H4.out.put hk (HB.out.setCell 8 _) ⟨rfl,rfl,rfl,rfl,rfl⟩
end Go.Proofs.YtpdnofhackjfdaaGreatDoor
