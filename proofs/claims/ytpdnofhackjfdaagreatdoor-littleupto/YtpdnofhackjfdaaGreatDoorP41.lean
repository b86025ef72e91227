/- Package whole's  -/
import Derived.Test.YtpdnofhackjfdaaGreatDoorP40
set_option linter.all false
set_option maxRecDepth 100000
set_option maxHeartbeats 4000000
namespace Go.Proofs.YtpdnofhackjfdaaGreatDoor
open Go.Proofs.Tryz
open Go.RowKit Go.Maps
variable {mt:Bool} {X:ByteArray} {A pl x y:Int} {gs:List Int} {ms:List MS} {l:List bG} {b fb p u0:Nat} {O O' S fix au:Nat->Prop} {gv v:Value} {w w':World}
theorem afr{lo hi mb c G2 j:Nat}{vs:List Sv}{x:CX}{jH:List Int}(hM:jt w lo hi mb c vs ms)(iI:eW ms)(hq:iL (G2:Int) ms)(dw:ms.length<=4001)(hs:x.s.size<=10000000)(I1:0<=x.aB/\x.aB<=1000000000000)(uh:u0<ms.length)(Ps:G2<=100000)(eh:x.op=false)
 (hR:cZ ms x (u0:Int) 0 (List.replicate (2*G2) (-1))=some (j,jH)):
 Calls prog 104 #[.agg #[.slice (some ⟨mb,0,none⟩) ms.length c,.int .i64 (u0:Int),.int .i64 (G2:Int)],.agg #[.string x.s,.int .i64 x.aB,.int .i32 x.ah,.int .i32 x.bh,.bool x.op]] w fun e w'=>∃gb,e=.returned (.slice (some ⟨gb,0,none⟩) (2*G2) (2*G2))/\w.heap.size<=gb/\aq w' gb (cY jH).toArray 3/\aa af w w':=by
 have HM:=ab hM;have pH:=ab iI;have HQ:=ab hq;have HR:=ab hR;have Ou:=ab eh;clear hM iI hq hR eh;have K1:Hid (aa af w ((w.alloc (.cells #[.slice (some ⟨mb,0,none⟩) ms.length c,.int .i64 (u0:Int),.int .i64 (G2:Int)] 73)).alloc (.cells #[.string x.s,.int .i64 x.aB,.int .i32 x.ah,.int .i32 x.bh,.bool x.op] 105))):=((aa.refl af w).alloc _).alloc _;have cU:((w.alloc (.cells #[.slice (some ⟨mb,0,none⟩) ms.length c,.int .i64 (u0:Int),.int .i64 (G2:Int)] 73)).alloc (.cells #[.string x.s,.int .i64 x.aB,.int .i32 x.ah,.int .i32 x.bh,.bool x.op] 105)).heap.size=w.heap.size+1+1:=by simp
 go_in
 go_wp2_with fail
 generalize((w.alloc (.cells #[.slice (some ⟨mb,0,none⟩) ms.length c,.int .i64 (u0:Int),.int .i64 (G2:Int)] 73)).alloc (.cells #[.string x.s,.int .i64 x.aB,.int .i32 x.ah,.int .i32 x.bh,.bool x.op] 105))=w1 at*
 have F:=ab (ac0 (st:=(u0:Int)) (G:=(G2:Int)) (HM.o.kept K1.o) pH.o HQ.o dw hs I1);refine(F.o).mono ?_;rintro e w2 ⟨g,wf,wd,rfl,qA,yv,hO,k2⟩;obtain⟨e1,e2,e3,e4,e5,e6,e7,e8,e9,vd,sE,yf,EJ,EK,EM⟩:=qA;have hz:bd g.x.s 0=0:=sB _;have F2:=acI yv hO (i0:=0) (j:=j) (u0:=u0) (G:=G2) (jH:=jH) (Ao _) (by rw[yv.bg.zero];exact Ab _) e3 (by rw[e1];exact uh) e4 Ps (by rw[e1,e2];exact HR.o);rw[hz]at F2;have F2:=ab F2;have mM:=ab (K1.o.trans k2);have HT:Hid ((g.x.op&&decide (g.x.n<=j))=false):=by show _=_;rw[e2,Ou.o,Ew]
 have kx:w.heap.size<=g.ob/\w.heap.size<=g.WB:=by omega
 have gg:=k2.size;clear F hO yv k2 hz;go_wp2_with fail;refine(F2.o).mono ?_;rintro e w3 ⟨hA,_,apL,wd3,_,_,k3⟩;obtain⟨gb,he,kT,AB⟩:=hA HT.o;subst he;have ax:Hid (aa af w w3/\w.heap.size<=gb):=⟨mM.o.bZ k3 (fun i hi hx=>by omega),by have:=mM.o.size;omega⟩;have xQ:=ab AB;clear F2 hA k3 mM HT AB;go_wp2_with fail;go_ret;exact⟨gb,rfl,ax.o.2,xQ.o.kept ((aa.refl af w3).alloc _) (fun h=>h),ax.o.1.alloc _⟩
theorem yh:prog.elem 42=5:=by simp[Program.elem,underlying42]
theorem aoC{K:ByteArray}(h:jN w v K)(h0:0<=x)(h1:x<=K.size):∃v',(∀W,(Instr.slice 42 v (some (.int .i64 x)) none none).run prog W=.ok v' W)/\jN w v' (K.extract x.toNat K.size)/\∀i,v'.ownBlock=some i->v.ownBlock=some i:=by
 have ht:prog.underlying 42=some (.slice (prog.elem 42)):=by rw[yh];exact underlying42
 obtain⟨n,rfl⟩:=Au h0;have aP:(K.extract n K.size).size=K.size-n:=extract_size K n K.size (Ab _);rcases h with⟨rfl,hz⟩|⟨b,off,cap,rfl,h2,h3⟩
 ·refine⟨.slice none 0 0,fun W=>?_,Or.inl ⟨rfl,by simp only[Ay];omega⟩,fun i hi=>hi⟩;rw[run_slice_l W _ _ _ _ ht .i64 _ h0 (by simpa using(show(n:Int)<=0 by omega)),yh,sizeOf5];have:n=0:=by omega
  subst this;simp[Result.andThen,sliced]
 ·simp only[Ay];refine⟨.slice (if cap=n then some ⟨b,off,none⟩else some ⟨b,off+n,none⟩) (K.size-n) (cap-n),fun W=>?_,?_,fun i hi=>?_⟩
  ·rw[run_slice_l W _ _ _ _ ht .i64 _ h0 h1,yh,sizeOf5];by_cases hc:cap=n
   ·simp[Result.andThen,sliced,hc]
   ·by_cases hn:n=0
    ·subst hn;simp[Result.andThen,sliced,hc,Addr.add]
    ·simp[Result.andThen,sliced,hc,Addr.add,hn]
  ·refine Or.inr ?_;by_cases hc:cap=n
   ·rw[if_pos hc];exact⟨b,off,cap-n,by rw[aP],by omega,fun j hj=>by omega⟩
   ·rw[if_neg hc];refine⟨b,off+n,cap-n,by rw[aP],by omega,fun j hj=>?_⟩;rw[vf K n K.size j (Ab _) (by omega),Di];exact h3 (n+j) (by omega)
  ·by_cases hc:cap=n
   ·rw[if_pos hc]at hi;exact hi
   ·rw[if_neg hc]at hi;exact hi
theorem aeV{K:ByteArray}(h:jN w v K)(h0:0<=x)(hxy:x<=y)(h1:y<=K.size):∃v',(∀W,(Instr.slice 42 v (some (.int .i64 x)) (some (.int .i64 y)) none).run prog W=.ok v' W)/\jN w v' (K.extract x.toNat y.toNat)/\∀i,v'.ownBlock=some i->v.ownBlock=some i:=by
 have ht:prog.underlying 42=some (.slice (prog.elem 42)):=by rw[yh];exact underlying42
 obtain⟨n,rfl⟩:=Au h0;obtain⟨m,rfl⟩:=Au (show 0<=y by omega);have aP:(K.extract n m).size=m-n:=extract_size K n m (by omega);rcases h with⟨rfl,hz⟩|⟨b,off,cap,rfl,h2,h3⟩
 ·refine⟨.slice none 0 0,fun W=>?_,Or.inl ⟨rfl,by simp only[Ay];omega⟩,fun i hi=>hi⟩;rw[run_slice_lh W _ _ _ _ ht .i64 .i64 _ _ h0 hxy (by simpa using(show(m:Int)<=0 by omega)),yh,sizeOf5];have:n=0:=by omega
  have:m=0:=by omega
  subst n m;simp[Result.andThen,sliced]
 ·simp only[Ay];refine⟨.slice (if cap=n then some ⟨b,off,none⟩else some ⟨b,off+n,none⟩) (m-n) (cap-n),fun W=>?_,?_,fun i hi=>?_⟩
  ·rw[run_slice_lh W _ _ _ _ ht .i64 .i64 _ _ h0 hxy (by omega),yh,sizeOf5];by_cases hc:cap=n
   ·simp[Result.andThen,sliced,hc]
   ·by_cases hn:n=0
    ·subst hn;simp[Result.andThen,sliced,hc,Addr.add]
    ·simp[Result.andThen,sliced,hc,Addr.add,hn]
  ·refine Or.inr ?_;by_cases hc:cap=n
   ·rw[if_pos hc];exact⟨b,off,cap-n,by rw[aP],by omega,fun j hj=>by omega⟩
   ·rw[if_neg hc];refine⟨b,off+n,cap-n,by rw[aP],by omega,fun j hj=>?_⟩;rw[vf K n m j (by omega) (by omega),Di];exact h3 (n+j) (by omega)
  ·by_cases hc:cap=n
   ·rw[if_pos hc]at hi;exact hi
   ·rw[if_neg hc]at hi;exact hi
theorem aoD{K:ByteArray}(h:jN w v K)(h0:0<=y)(h1:y<=K.size):∃v',(∀W,(Instr.slice 42 v none (some (.int .i64 y)) none).run prog W=.ok v' W)/\jN w v' (K.extract 0 y.toNat):=by
 have ht:prog.underlying 42=some (.slice (prog.elem 42)):=by rw[yh];exact underlying42
 obtain⟨m,rfl⟩:=Au h0;have aP:(K.extract 0 m).size=m-0:=extract_size K 0 m (by omega);rcases h with⟨rfl,hz⟩|⟨b,off,cap,rfl,h2,h3⟩
 ·refine⟨.slice none 0 0,fun W=>?_,Or.inl ⟨rfl,by simp only[Ay];omega⟩⟩;rw[run_slice_h W _ _ _ _ ht .i64 _ h0 (by simpa using(show(m:Int)<=0 by omega)),yh,sizeOf5];have:m=0:=by omega
  subst m;simp[Result.andThen,sliced]
 ·simp only[Ay];refine⟨.slice (some ⟨b,off,none⟩) m cap,fun W=>?_,Or.inr ⟨b,off,cap,by rw[aP];rfl,by omega,fun j hj=>?_⟩⟩
  ·rw[run_slice_h W _ _ _ _ ht .i64 _ h0 (by omega),yh,sizeOf5];by_cases hc:cap=0
   ·subst hc;simp[Result.andThen,sliced]
   ·simp[Result.andThen,sliced,hc,Addr.add]
  ·rw[vf K 0 m j (by omega) (by omega),Bf];exact h3 j (by omega)
theorem aag{s:ByteArray}(h:jN w v s):(convert 42 9 v).run prog w=.ok (.string s) w:=by
 rcases h with⟨rfl,hz⟩|⟨b,off,cap,rfl,h2,h3⟩
 ·rw[Lib.run_convert_nil_bytes w _ _ _ 0 underlying42 underlying5 underlying9]
  have:s=⟨#[]⟩:=by
   apply Fd
   exact Array.eq_empty_of_size_eq_zero hz
  rw[this]
 ·exact Lib.run_convert_whole w _ _ _ underlying42 underlying5 underlying9 b off s (fun i hi=>by rw[h3 i hi,Utf8W.get!_of_lt s i hi]) cap
theorem yW{base:Nat}{K:ByteArray}(h:w.ownsRow base 5 1 v K.size (jT K)):jN w v K:=by
 rcases h.2 with⟨rfl,hz⟩|⟨g,cap,aM,rfl,a1,a2,a3,a4,a5,a6⟩
 ·exact Or.inl ⟨rfl,hz⟩
 ·refine Or.inr ⟨g,0,cap,rfl,a3,fun j hj=>?_⟩
  have hB:w.cell? ⟨g,0+j,none⟩=aM[j]? :=by
   rw[Bf];exact aq.cell a2 j
  rw[hB];have h1:=Z4 K hj;rw[<-a6,Nat.mul_one,Aw hj]at h1;rw[<-h1];simp
def uF(w:World)(O:Nat->Prop)(gv:Value)(gs:List Int):Prop:=(gv=.slice none 0 0/\gs=[])\/∃gb,gv=.slice (some ⟨gb,0,none⟩) gs.length gs.length/\O gb/\aq w gb (cY gs).toArray 3
theorem uF.kept{K:Nat->Prop}(h:uF w O gv gs)(k:aa K w w')(hK:∀i,O i->¬K i):uF w' O gv gs:=by
 rcases h with h|⟨gb,h1,h2,h3⟩
 ·exact Or.inl h
 ·exact Or.inr ⟨gb,h1,h2,h3.kept k (hK gb h2)⟩
theorem uF.mono(h:uF w O gv gs)(hO:∀i,O i->O' i):uF w O' gv gs:=by
 rcases h with h|⟨gb,h1,h2,h3⟩
 ·exact Or.inl h
 ·exact Or.inr ⟨gb,h1,hO gb h2,h3⟩
def Lz(X:ByteArray)(e:Ev)(gv:Value):List Value:=[.int .i64 (aK X e.a),.int .i64 (aK X e.b),gv,.string (X.extract (bd X e.a) (bd X e.b))]
def iF(X:ByteArray)(l:List (Ev×Value)):List Value:=l.flatMap fun p=>Lz X p.1 p.2
structure gj(w:World)(O:Nat->Prop)(v:Value)(X:ByteArray)(l:List (Ev×Value)):Prop where
 row:w.ownsRow 0 46 4 v l.length (iF X l)
 CQ:∀i,v.ownBlock=some i->O i
 iS:∀p∈l,uF w O p.2 p.1.gs
 lt:∀i,O i->i<w.heap.size
theorem TQ(X:ByteArray)(l:List (Ev×Value)):(iF X l).length=l.length*4:=by
 unfold iF;induction l with
 |nil=>rfl
 |cons p l ih=>rw[C5,Aj,ih];simp[Lz];omega
theorem ahC(X:ByteArray)(l m:List (Ev×Value)):iF X (l++m)=iF X l++iF X m:=by unfold iF;simp
theorem gj.kept{K:Nat->Prop}{l:List (Ev×Value)}(h:gj w O v X l)(k:aa K w w')(hK:∀i,O i->¬K i):gj w' O v X l:=
 ⟨bY h.row k (fun b hb=>hK b (h.CQ b hb)),h.CQ,fun p hp=>(h.iS p hp).kept k hK,fun i hi=>As (h.lt i hi) k.size⟩
theorem gj.new{l:List (Ev×Value)}(h:gj w O v X l)(k:aa af w w'):gj w' O v X l:=h.kept k (fun _ _ h=>h)
theorem gj.nil(w:World)(X:ByteArray):gj w af (.slice none 0 0) X []:=⟨A6 _ _ _ _,fun i h=>(by cases h),fun p h=>(by cases h),fun i h=>h.elim⟩
theorem gj.cell{l:List (Ev×Value)}(h:gj w O v X l):(v=.slice none 0 0/\l=[])\/∃g cap,v=.slice (some ⟨g,0,none⟩) l.length cap/\l.length<=cap/\∀j u,(iF X l)[j]? =some u->w.cell? ((⟨g,0,none⟩:Addr).add j)=some u:=by
 rcases h.row.2 with⟨h1,h2⟩|⟨g,cap,aM,h1,a1,a2,a3,a4,a5,a6⟩
 ·exact Or.inl ⟨h1,Ax.1 h2⟩
 ·subst h1;exact Or.inr ⟨g,cap,rfl,a3,h.row.cells (g:=g) rfl⟩
theorem gj.QY{l:List (Ev×Value)}(h:gj w O v X l){cs:Array Value}(hb:aq w b cs 3):v.ownBlock≠some b:=fun e=>by
 rcases h.row.2 with⟨h1,_⟩|⟨g,cap,aM,h1,a1,a2,r⟩
 ·subst h1;simp[Value.ownBlock]at e
 ·subst h1;simp[Value.ownBlock]at e;subst e;unfold aq at hb;rw[a2]at hb;simp at hb
theorem uF.a_{K:Nat->Prop}(h:uF w O gv gs)(k:aa K w w')(hK:∀b cs,K b->¬aq w b cs 3):uF w' O gv gs:=by
 rcases h with h|⟨gb,h1,h2,h3⟩
 ·exact Or.inl h
 ·exact Or.inr ⟨gb,h1,h2,h3.kept k (fun hk=>hK gb _ hk h3)⟩
theorem gj.append{W:World}{O2:Nat->Prop}{v2 v':Value}{l m:List (Ev×Value)}(h:gj w O v X l)(h2:gj w O2 v2 X m)(k0:aa af w W)
 (bt:w'.ownsRow 0 46 4 v' (l.length+m.length) (iF X l++iF X m))(hg:W.grownBy w' v.ownBlock)(iV:v'.ownBlock=v.ownBlock\/v'.ownBlock=some W.heap.size):gj w' (fun i=>O i\/O2 i\/i=W.heap.size/\v'.ownBlock=some i) v' X (l++m)/\aa (fun i=>v.ownBlock=some i) w w':=by
 have k7:aa (fun j=>v.ownBlock=some j) w w':=(k0.mono (fun i hx=>hx.elim)).eQ hg (fun j hj=>Or.inl hj);have hb:∀b cs,v.ownBlock=some b->¬aq w b cs 3:=fun b cs hv hB=>h.QY hB hv
 have hs:=k0.size;refine⟨⟨by rw[Aj,ahC];exact bt,fun i hi=>?_,fun p hp=>?_,fun i hi=>?_⟩,k7⟩
 ·rcases iV with e|e
  ·exact Or.inl (h.CQ i (by rw[<-e];exact hi))
  ·exact Or.inr (Or.inr ⟨by rw[hi]at e;exact C6 e,hi⟩)
 ·rcases Al.1 hp with hp|hp
  ·exact((h.iS p hp).a_ k7 hb).mono (fun i hi=>Or.inl hi)
  ·exact((h2.iS p hp).a_ k7 hb).mono (fun i hi=>Or.inr (Or.inl hi))
 ·rcases hi with hi|hi|⟨_,hi⟩
  ·exact As (h.lt i hi) k7.size
  ·exact As (h2.lt i hi) k7.size
  ·exact(dE bt hi).2
theorem gj.mono{l:List (Ev×Value)}(h:gj w O v X l)(hO:∀i,O i->O' i)(hl:∀i,O' i->i<w.heap.size):gj w O' v X l:=
 ⟨h.row,fun i hi=>hO i (h.CQ i hi),fun p hp=>(h.iS p hp).mono hO,hl⟩
structure FC where
 mv:Value
 st:Int
 G:Int
 ev:Value
 kv:Value
 aB:Int
 ah:Int
 pl:Int
 re:Int
 ag:Bool
 fr:Int
 tl:Int
 ma:Int
 mz:Int
 md:Bool
 wn:Int
 ov:Bool
def FC.cells(c:FC):Array Value:=#[c.mv,.int .i64 c.st,.int .i64 c.G,c.ev,c.kv,.int .i64 c.aB,.int .i32 c.ah,.int .i64 c.pl,.int .i64 c.re,.bool c.ag,.int .i64 c.fr,.int .i64 c.tl,.int .i64 c.ma,.int .i64 c.mz,.bool c.md,.int .i64 c.wn,.bool c.ov]
theorem FC.wO(c:FC)(f t:Int):om c.cells 10 f t=({c with fr:=f,tl:=t}:FC).cells:=rfl
structure FM where
 lo:Nat
 hi:Nat
 mb:Nat
 cc:Nat
 vs:List Sv
 ms:List MS
 u0:Nat
 G:Nat
def FM.mv(g:FM):Value:=.slice (some ⟨g.mb,0,none⟩) g.ms.length g.cc
def FM.cM(g:FM)(i:Nat):Prop:=(i=g.mb\/(g.lo<=i/\i<g.hi))\/(i=0\/i=1)
structure FM.Ok(g:FM):Prop where
 fL:eW g.ms
 q:iL (g.G:Int) g.ms
 bJ:g.ms.length<=4001
 u0:g.u0<g.ms.length
 G:g.G<=100000
theorem jt.MU{g:FM}{K:Nat->Prop}(h:jt w g.lo g.hi g.mb g.cc g.vs g.ms)(k:aa K w w')(hK:∀i,K i->¬g.cM i):jt w' g.lo g.hi g.mb g.cc g.vs g.ms:=
 jt.Jw (g:=⟨0,0,0,g.lo,g.hi,g.mb,g.cc,g.vs,g.ms,0,0⟩) h k hK
structure fE(w:World)(fb:Nat)(g:FM)(c:FC)(K:ByteArray)(A:Int)(mt:Bool)(l:List bG)(au fix:Nat->Prop):Prop where
 aj:aq w fb c.cells 124
 ma:jt w g.lo g.hi g.mb g.cc g.vs g.ms
 mv:c.mv=g.mv
 st:c.st=(g.u0:Int)
 G:c.G=(g.G:Int)
 en:l_ w c.ev g.ms (g.u0:Int) A mt l au fix
 kp:w.ownsRow 0 5 1 c.kv K.size (jT K)
 ll:∀i,au i->i≠fb/\c.kv.ownBlock≠some i/\¬g.cM i
 nu:∀i,fix i\/g.cM i->i≠fb/\c.kv.ownBlock≠some i
 tN:c.kv.ownBlock≠some fb
def FO(fb:Nat)(c:FC)(au:Nat->Prop)(i:Nat):Prop:=au i\/i=fb\/c.kv.ownBlock=some i
theorem fE.kept{g:FM}{c:FC}{K:ByteArray}(h:fE w fb g c K A mt l au fix)(k:aa S w w')(hS:∀i,S i->¬FO fb c au i/\¬fix i/\¬g.cM i):fE w' fb g c K A mt l au fix where
 aj:=h.aj.kept k (fun hs=>(hS fb hs).1 (Or.inr (Or.inl rfl)))
 ma:=h.ma.MU k (fun i hi=>(hS i hi).2.2)
 mv:=h.mv
 st:=h.st
 G:=h.G
 en:=h.en.kept k (fun i hi=>⟨fun ho=>(hS i hi).1 (Or.inl ho),(hS i hi).2.1⟩)
 kp:=bY h.kp k (fun b hb hs=>(hS b hs).1 (Or.inr (Or.inr hb)))
 ll:=h.ll
 nu:=h.nu
 tN:=h.tN
theorem fE.new{g:FM}{c:FC}{K:ByteArray}(h:fE w fb g c K A mt l au fix)(k:aa af w w'):fE w' fb g c K A mt l au fix:=h.kept k (fun _ hx=>hx.elim)
theorem fE.put{g:FM}{c c':FC}{K:ByteArray}(h:fE w fb g c K A mt l au fix)(k:aa (fun i=>i=fb) w w')(hb:aq w' fb c'.cells 124)(e:c'.mv=c.mv/\c'.st=c.st/\c'.G=c.G/\c'.ev=c.ev/\c'.kv=c.kv):fE w' fb g c' K A mt l au fix where
 aj:=hb
 ma:=h.ma.MU k (fun i hi hm=>(h.nu i (Or.inr hm)).1 hi)
 mv:=e.1.trans h.mv
 st:=e.2.1.trans h.st
 G:=e.2.2.1.trans h.G
 en:=by rw[e.2.2.2.1];exact h.en.kept k (fun i hi=>⟨fun ho=>(h.ll i ho).1 hi,fun hf=>(h.nu i (Or.inl hf)).1 hi⟩)
 kp:=by rw[e.2.2.2.2];exact bY h.kp k (fun b hb hs=>h.tN (by rw[<-hs];exact hb))
 ll:=by rw[e.2.2.2.2];exact h.ll
 nu:=by rw[e.2.2.2.2];exact h.nu
 tN:=by rw[e.2.2.2.2];exact h.tN
theorem fE.qt{g:FM}{c:FC}{K:ByteArray}{A':Int}{mt':Bool}{l':List bG}{cF:Nat->Prop}(h:fE w fb g c K A mt l au fix)(he:l_ w' c.ev g.ms (g.u0:Int) A' mt' l' cF fix)(k:cH au cF w w'):fE w' fb g c K A' mt' l' cF fix where
 aj:=h.aj.kept k.kept (fun hs=>(h.ll fb hs).1 rfl)
 ma:=h.ma.MU k.kept (fun i hi=>(h.ll i hi).2.2)
 mv:=h.mv
 st:=h.st
 G:=h.G
 en:=he
 kp:=bY h.kp k.kept (fun b hb hs=>(h.ll b hs).2.1 hb)
 ll i hi:=by
  rcases k.aj i hi with ho|hn
  ·exact h.ll i ho
  ·have h1:=h.aj.lt;refine⟨by omega,fun e=>by have:=(dE h.kp e).2;omega,fun hm=>?_⟩;have h2:=h.ma.le;have h3:=h.ma.j8.lt;have h4:=h.ma.iw.lt;rcases hm with(hm|hm)|(hm|hm)<;>omega
 nu:=h.nu
 tN:=h.tN
structure bR where
 f:Nat
 b:Nat
 i:Nat
 r:Nat
 aW:Nat
 l:List bG
 mt:Option (Int×Nat)
 told:Int
def bR.K(s:bR)(X:ByteArray):ByteArray:=X.extract (bd X s.f) s.aW
structure mI(ms:List MS)(u0:Nat)(X:ByteArray)(s:bR):Prop where
 qt:pF ms X u0 s.b s.i s.l s.mt
 low:wF X s.f s.i s.l s.mt
 ir:s.i<=s.r
 rn:s.r<=(aF X).length
 rf:bd X s.r<=s.aW
 fx:s.aW<=X.size
 sz:X.size<=10000000
structure N7(X:ByteArray)(s:bR)(c:FC):Prop where
 aB:c.aB=aK X s.f
 j7:uW X s.f c.ah
 pl:c.pl=aK X s.i
 re:c.re=aK X s.r
 tl:c.tl=s.told
 md:c.md=s.mt.isSome
 mt:∀a j,s.mt=some (a,j)->c.ma=a/\c.mz=aK X j
 ov:c.ov=false
structure jC(w:World)(fb:Nat)(g:FM)(X:ByteArray)(s:bR)(c:FC)(au fix:Nat->Prop):Prop where
 mem:∃A,fE w fb g c (s.K X) A s.mt.isSome s.l au fix/\pD g.ms ((aO X).ahead s.i) A
 fc:N7 X s c
 ok:mI g.ms g.u0 X s
theorem jC.kept{g:FM}{s:bR}{c:FC}(h:jC w fb g X s c au fix)(k:aa S w w')(hS:∀i,S i->¬FO fb c au i/\¬fix i/\¬g.cM i):jC w' fb g X s c au fix:=by
 obtain⟨A,h1,h2⟩:=h.mem;exact⟨⟨A,h1.kept k hS,h2⟩,h.fc,h.ok⟩
theorem jC.new{g:FM}{s:bR}{c:FC}(h:jC w fb g X s c au fix)(k:aa af w w'):jC w' fb g X s c au fix:=h.kept k (fun _ hx=>hx.elim)
theorem mI.u5{s:bR}(h:mI ms u0 X s):bd X s.f<=bd X s.i/\bd X s.i<=bd X s.r/\bd X s.r<=s.aW/\s.aW<=X.size/\s.i<=(aF X).length/\(s.K X).size=s.aW-bd X s.f:=
 ⟨fR X h.low.le,fR X h.ir,h.rf,h.fx,by have:=h.ir;have:=h.rn;omega,extract_size X _ _ h.fx⟩
theorem bR.from_{s:bR}(h0:bd X s.f<=p)(h1:p<=s.aW)(hx:s.aW<=X.size):(s.K X).extract (p-bd X s.f) (s.K X).size=X.extract p s.aW:=by
 unfold bR.K;rw[extract_size X _ _ hx,Ph X _ _ _ _ (by omega)];congr 1<;>omega
theorem bR.range{s:bR}{q:Nat}(h0:bd X s.f<=p)(h1:p<=q)(h2:q<=s.aW)(hx:s.aW<=X.size):(s.K X).extract (p-bd X s.f) (q-bd X s.f)=X.extract p q:=by
 unfold bR.K;rw[Ph X _ _ _ _ (by omega)];congr 1<;>omega
def bR.step(ms:List MS)(u0:Nat)(X:ByteArray)(A:Int)(s:bR):bR:=
 {s with i:=s.i+1,r:=max s.r (s.i+1),l:=(aZ ms A ((aO X).bl s.i) (jA u0 (aK X s.i) s.mt.isSome s.l)).1,mt:=tj s.i (aZ ms A ((aO X).bl s.i) (jA u0 (aK X s.i) s.mt.isSome s.l)).2 s.mt}
theorem mI.step(hg:eW ms)(hu:u0<ms.length){s:bR}(h:mI ms u0 X s)(hA:pD ms ((aO X).ahead s.i) A)(hi:s.i<(aF X).length)(hf:bd X (s.i+1)<=s.aW):mI ms u0 X (s.step ms u0 X A) where
 qt:=h.qt.step hg hu hi hA
 low:=h.low.step hg h.qt hu hi hA
 ir:=by show s.i+1<=max s.r (s.i+1);omega
 rn:=by have:=h.rn;show max s.r (s.i+1)<=_;omega
 rf:=by
  show bd X (max s.r (s.i+1))<=s.aW
  rcases Nat.le_total s.r (s.i+1)with h1|h1
  ·rw[Nat.max_eq_right h1];exact hf
  ·rw[Nat.max_eq_left h1];exact h.rf
 fx:=h.fx
 sz:=h.sz
def bR.iP(s:bR)(b:Nat)(told:Int):bR:={s with b:=b,i:=b,l:=[],mt:=none,told:=told}
theorem mI.iP{s:bR}(h:mI ms u0 X s)(told:Int)(h0:s.f<=b)(h1:b<=s.r):mI ms u0 X (s.iP b told) where
 qt:=pF.begin ms X u0 b (by have:=h.rn;omega)
 low:=⟨h0,fun t ht=>(by cases ht),fun a j hm=>(by cases hm)⟩
 ir:=h1
 rn:=h.rn
 rf:=h.rf
 fx:=h.fx
 sz:=h.sz
def bR.EI(s:bR)(f:Nat):bR:={s with f:=f}
theorem mI.EI{s:bR}(h:mI ms u0 X s){f:Nat}(hl:wF X f s.i s.l s.mt):mI ms u0 X (s.EI f):=⟨h.qt,hl,h.ir,h.rn,h.rf,h.fx,h.sz⟩
def bR.eG(s:bR)(n:Nat):bR:={s with aW:=s.aW+n}
theorem mI.eG{s:bR}(h:mI ms u0 X s){n:Nat}(hn:s.aW+n<=X.size):mI ms u0 X (s.eG n):=⟨h.qt,h.low,h.ir,h.rn,by have:=h.rf;show bd X s.r<=s.aW+n;omega,hn,h.sz⟩
def bR.rest(ms:List MS)(u0 G:Nat)(X:ByteArray)(s:bR):List Ev:=(eP (eJ ms (aO X) u0 G) (aF X).length (aK X) false s.b s.told).1
theorem zo(h0: -9223372036854775808<=x)(h1:x<=9223372036854775807):IntKind.i64.wrap x=x:=by
 rw[Cx];omega
theorem QN{c:FC}{K:ByteArray}(hB:aq w fb c.cells 124)(hK:jN w c.kv K)(h0:0<=c.aB)(h1:c.aB<=pl)(h2:pl-c.aB<=K.size)(h3:pl<=1000000000000):
 Calls prog 74 #[.pointer (some ⟨fb,0,none⟩),.int .i64 pl] w fun e w'=>(∃v,e=.returned v/\jN w v (K.extract (pl-c.aB).toNat K.size))/\∃n,w'=w.drewN n:=by
 obtain⟨v',ib,hb,_⟩:=aoC hK (x:=pl-c.aB) (by omega) h2;have c4:w.cell? ⟨fb,4,none⟩=some c.kv:=hB.cell 4;have c5:w.cell? ⟨fb,5,none⟩=some (.int .i64 c.aB):=hB.cell 5;have HB:=ab hb;generalize c.kv=kv at*;generalize c.aB=bg at*;clear hB hK hb h2;go_in;go_wp2_with fail;go_quiet (fail);go_wp2_with fail;go_ret;exact⟨⟨v',rfl,HB.o⟩,nq,rfl⟩
def oa(c:FC)(K:ByteArray)(pl:Int):Int:=if pl=c.aB then c.ah else pY ((Lib.decodeLastL (K.extract 0 (pl-c.aB).toNat).data.toList).1:Int)
def XO(fb:Nat)(kv:Value)(bg:Int)(W:World):Prop:=W.cell? ⟨fb,4,none⟩=some kv/\W.cell? ⟨fb,5,none⟩=some (.int .i64 bg)
theorem Tm{c:FC}{K:ByteArray}(hB:aq w fb c.cells 124)(hK:jN w c.kv K)(hT:jf w)(h0:0<=c.aB)(h1:c.aB<=pl)(h2:pl-c.aB<=K.size)(h3:pl<=1000000000000)(h4:K.size<=1000000000000):
 Calls prog 105 #[.pointer (some ⟨fb,0,none⟩),.int .i64 pl] w fun e w'=>e=.returned (.int .i32 (oa c K pl))/\aa af w w':=by
 unfold oa;have c5:w.cell? ⟨fb,5,none⟩=some (.int .i64 c.aB):=hB.cell 5;by_cases he:pl=c.aB
 ·rw[if_pos he];have c6:w.cell? ⟨fb,6,none⟩=some (.int .i32 c.ah):=hB.cell 6;generalize c.aB=bg at*;generalize c.ah=ah at*;subst he;clear hB hK hT h2;go_in;go_wp2_with fail;go_ret;exact⟨rfl,aa.refl _ _⟩
 ·rw[if_neg he];obtain⟨v',ib,hb⟩:=aoD hK (y:=pl-c.aB) (by omega) h2;have hz:(K.extract 0 (pl-c.aB).toNat).size=(pl-c.aB).toNat-0:=extract_size K 0 _ (by omega);have F:=ab fun(W:World) (k:aa af w W)=>ahg (hb.new k) (by omega) (by omega) (hT.jZ k)
  have S1:Hid (∀W,aa af w W->XO fb c.kv c.aB W):=fun W k=>by
   have:=hB.kept k (fun hx=>hx);exact⟨this.cell 4,this.cell 5⟩
  have az:(pl==c.aB)=false:=by simpa using he
  have BU:IntKind.i64.wrap (pl-c.aB)=pl-c.aB:=zo (by omega) (by omega);generalize((Lib.decodeLastL (K.extract 0 (pl-c.aB).toNat).data.toList).1:Int)=la at*;generalize((Lib.decodeLastL (K.extract 0 (pl-c.aB).toNat).data.toList).2:Int)=QQ at*;generalize c.kv=kv at*;generalize c.aB=bg at*;clear hB hK hT hb hz h2;go_in;go_wp2_with fail;refine j9 (Ch (by kernel_rfl) (Cc (S:=XO fb kv bg) _ _ _ _ ?_));have ak:=S1.o w.drew (aa.refl _ _).drew;refine ai 0 18 (.pointer (some ⟨fb,0,none⟩)) ak ?_;refine ai 1 19 (.pointer (some ⟨fb,0,none⟩)) ak ?_;refine ai 2 20 (.pointer (some ⟨fb,4,none⟩)) ak ?_;refine ai 3 21 kv ak ?_;refine ai 4 22 (.int .i64 pl) ak ?_;refine ai 5 23 (.pointer (some ⟨fb,0,none⟩)) ak ?_;refine ai 6 24 (.pointer (some ⟨fb,0,none⟩)) ak ?_;refine ai 7 25 (.pointer (some ⟨fb,5,none⟩)) ak ?_;refine ai 8 26 (.int .i64 bg) ak ?_;refine ai 9 27 (.int .i64 (pl-bg)) ak ?_;refine ai 10 28 v' ak ?_;simp only[Act.put,Aa,Ad,Ac];refine bQ 11 fun K hK=>?_
  go_simp;refine(F.o _ (aa.refl _ _).drew).mono ?_;rintro e w1 ⟨rfl,k1⟩;dsimp only;have K1:Hid (aa af w w1):=((aa.refl af w).drew).trans k1;have eR:=S1.o w1 K1.o;refine hK.o _ _ eR (fun _=>?_);clear hK K F k1;refine ai 12 17 (.tuple #[.int .i32 la,.int .i64 QQ]) eR ?_;refine ai 13 30 (.int .i32 la) eR ?_;refine ai 14 31 (.int .i64 QQ) eR ?_;refine ai 15 5 (.int .i32 la) eR ?_;refine ai 16 6 (.int .i64 QQ) eR ?_;simp only[Act.put,Aa,Ad,Ac];refine At (by kernel_rfl) ?_ _;refine jy ?_;clear S1 ak eR;go_simp;go_wp2_with fail;refine(Zx w1 la).mono ?_;rintro e w2 ⟨rfl,rfl⟩;go_wp2_with fail;go_ret;exact⟨rfl,K1.o⟩
theorem agM{g:FM}{c:FC}{K:ByteArray}(h:fE w fb g c K A mt l au fix):
 Calls prog 76 #[.pointer (some ⟨fb,0,none⟩)] w fun e w'=>e=.returned (.bool (c.md&&l.isEmpty))/\w'=w:=by
 obtain⟨T,xv,fn,ku,iA,I3,F⟩:=h.en.first
 have c3:w.cell? ⟨fb,3,none⟩=some c.ev:=h.aj.cell 3;have c14:w.cell? ⟨fb,14,none⟩=some (.bool c.md):=h.aj.cell 14;rw[ku]at c3;have F:=ab F;generalize c.md=md at*;generalize((l.head?.map (·.2)).getD 0)=fs at*;generalize l.isEmpty=le at*;clear h ku;go_in;go_wp2_with fail;refine(F.o).mono ?_;rintro e w1 ⟨rfl,rfl⟩
 cases md<;>cases le<;>(go_wp2_with fail;go_ret;exact⟨rfl,rfl⟩)
theorem aaY{g:FM}{c:FC}{K:ByteArray}(h:fE w fb g c K A mt l au fix):
 Calls prog 52 #[.pointer (some ⟨fb,0,none⟩)] w fun e w'=>e=.returned (.int .i64 ((l.head?.map (·.2)).getD c.pl))/\w'=w:=by
 obtain⟨T,xv,fn,ku,iA,I3,F⟩:=h.en.first
 have c3:w.cell? ⟨fb,3,none⟩=some c.ev:=h.aj.cell 3;have c7:w.cell? ⟨fb,7,none⟩=some (.int .i64 c.pl):=h.aj.cell 7;rw[ku]at c3
 cases l with
 |nil=>
  have F:=ab F;generalize c.pl=pl at*;clear h ku;go_in;go_wp2_with fail;refine(F.o).mono ?_;rintro e w1 ⟨rfl,rfl⟩;go_wp2_with fail;go_ret;exact⟨rfl,rfl⟩
 |cons t ts=>
  have F:=ab F;generalize c.pl=pl at*;clear h ku;go_in;go_wp2_with fail;refine(F.o).mono ?_;rintro e w1 ⟨rfl,rfl⟩;go_wp2_with fail;go_ret;exact⟨rfl,rfl⟩
def FC.step(c:FC)(n:Int)(r:List bG×Option Int):FC:=
 {c with ag:=decide (c.pl<c.re),pl:=c.pl+n,re:=max c.re (c.pl+n),ma:=if r.2.isSome then r.2.getD 0 else c.ma,mz:=if r.2.isSome then c.pl else c.mz,md:=c.md||r.2.isSome}
structure StF(w:World)(fb:Nat)(g:FM)(c:FC)(K:ByteArray)(A:Int)(mt:Bool)(l:List bG)(au fix:Nat->Prop)(d:Nat×Nat)(w':World)(cF:Nat->Prop):Prop where
 mem:fE w' fb g (c.step d.2 (aZ g.ms A d.1 (pW g.u0 c.pl mt l))) K d.1 (mt||(aZ g.ms A d.1 (pW g.u0 c.pl mt l)).2.isSome) (aZ g.ms A d.1 (pW g.u0 c.pl mt l)).1 cF fix
 dA:cH (fun i=>au i\/i=fb) cF w w'
def ZA(fb:Nat)(T:TypeId)(xv:Value)(pl:Int)(W:World):Prop:=W.cell? ⟨fb,3,none⟩=some (.iface T xv)/\W.cell? ⟨fb,7,none⟩=some (.int .i64 pl)
theorem aoy{g:FM}{c:FC}{K:ByteArray}{d:Nat×Nat}(h:fE w fb g c K A mt l au fix)(h0:0<=c.aB)(h1:c.aB<=c.pl)(h2:c.pl-c.aB<=K.size)(h3:c.pl<=1000000000000)(h4:0<=c.re/\c.re<=1000000000000)
 (hd:Lib.decodeGo (K.extract (c.pl-c.aB).toNat K.size)=d)(hr:d.1<=1114111)(hw:d.2<=4):
 Calls prog 75 #[.pointer (some ⟨fb,0,none⟩)] w fun e w'=>e=.returned (.tuple #[])/\∃cF,StF w fb g c K A mt l au fix d w' cF:=by
 have H:=ab h;have p7:w.cell? ⟨fb,7,none⟩=some (.int .i64 c.pl):=h.aj.cell 7;have p8:w.cell? ⟨fb,8,none⟩=some (.int .i64 c.re):=h.aj.cell 8;have p9:w.cell? ⟨fb,9,none⟩=some (.bool c.ag):=h.aj.cell 9;have f9:w.frozen? ⟨fb,9,none⟩=false:=h.aj.frozen 9;clear h;go_in;go_wp2_with fail;go_region;have H1:Hid (fE (w.setCell ⟨fb,9,none⟩ (.bool (decide (c.pl<c.re)))).drew fb g {c with ag:=decide (c.pl<c.re)} K A mt l au fix):=H.o.put (((aa.refl (fun i=>i=fb) w).setCell (p:=⟨fb,9,none⟩) (Or.inl rfl) _).drew) (H.o.aj.setCell 9 (.bool (decide (c.pl<c.re)))) ⟨rfl,rfl,rfl,rfl,rfl⟩;have G1:Hid (cH (fun i=>au i\/i=fb) au w (w.setCell ⟨fb,9,none⟩ (.bool (decide (c.pl<c.re)))).drew):=⟨((aa.refl _ w).setCell (p:=⟨fb,9,none⟩) (Or.inl (Or.inr rfl)) _).drew,fun i hi=>Or.inl (Or.inl hi)⟩;generalize(w.setCell ⟨fb,9,none⟩ (.bool (decide (c.pl<c.re)))).drew=w1 at*;clear H p7 p8 p9 f9;have q7:w1.cell? ⟨fb,7,none⟩=some (.int .i64 c.pl):=H1.o.aj.cell 7;have F1:=ab (QN (pl:=c.pl) H1.o.aj (yW H1.o.kp) h0 h1 h2 h3);go_wp2_with fail;refine(F1.o).mono ?_;rintro e w2 ⟨⟨v,rfl,sN⟩,n,rfl⟩;have F2:=ab (aan (w:=w1.drewN n) (sN.new ((aa.refl _ w1).drewN n)) (H1.o.ma.j8.jZ ((aa.refl _ w1).drewN n)));rw[show Lib.decodeGo (K.extract (c.pl-FC.aB {c with ag:=decide (c.pl<c.re)}).toNat K.size)=d from hd]at F2;clear sN F1;go_wp2_with fail;refine(F2.o).mono ?_;rintro e w3 ⟨rfl,k3⟩;have GX:=((aa.refl af w1).drewN n).trans k3;have H3:=ab (H1.o.new GX);have G3:Hid (cH (fun i=>au i\/i=fb) au w w3):=⟨G1.o.kept.bZ GX (fun i _ hx=>hx.elim),fun i hi=>Or.inl (Or.inl hi)⟩;clear F2 k3 GX q7 H1 G1;obtain⟨T,xv,fn,ku,iA,I3,F3⟩:=(H3.o.en.new (aa.refl _ w3).drew).step (place:=c.pl) (bh:=(d.1:Int)) (by omega);have F3:=ab F3
 have S1:Hid (∀W,aa au w3 W->ZA fb T xv c.pl W):=fun W k=>by
  have:=H3.o.aj.kept k (fun hx=>(H3.o.ll fb hx).1 rfl);exact⟨by rw[<-ku];exact this.cell 3,this.cell 7⟩
 clear ku;go_wp2_with fail;refine j9 (Ch (by kernel_rfl) (Cc (S:=ZA fb T xv c.pl) _ _ _ _ ?_));have ak:=S1.o w3.drew (aa.refl _ _).drew;refine ai 0 29 (.pointer (some ⟨fb,0,none⟩)) ak ?_;refine ai 1 30 (.pointer (some ⟨fb,0,none⟩)) ak ?_;refine ai 2 31 (.pointer (some ⟨fb,3,none⟩)) ak ?_;refine ai 3 32 (.iface T xv) ak ?_;refine ai 4 33 (.pointer (some ⟨fb,0,none⟩)) ak ?_;refine ai 5 34 (.pointer (some ⟨fb,0,none⟩)) ak ?_;refine ai 6 35 (.pointer (some ⟨fb,7,none⟩)) ak ?_;refine ai 7 36 (.int .i64 c.pl) ak ?_;refine ai 8 37 (.int .i32 (d.1:Int)) ak ?_;refine ai 9 38 (.iface T xv) ak ?_;refine ai 10 39 (.iface T xv) ak ?_;simp only[Act.put,Aa,Ad,Ac];refine bQ 11 fun K hK=>?_
 go_simp;refine(F3.o).mono ?_;rintro e w4 ⟨rfl,Hk,hE4,Us⟩;dsimp only;have CB:aa au w3 w4:=((aa.refl au w3).drew).trans Us.kept;have cx:=S1.o w4 CB;refine hK.o _ _ cx (fun _=>?_);clear hK K;have Ua:cH au Hk w3 w4:=⟨CB,Us.aj⟩;have H4:=ab (H3.o.qt hE4 Ua);have G4:=ab (G3.o.trans Ua);clear H3 G3 Ua hE4 Us F3 S1 iA I3 ak;obtain⟨rs,kE⟩:∃x,x=(aZ g.ms A d.1 (pW g.u0 c.pl mt l)).2.getD 0:=⟨_,rfl⟩
 obtain⟨rb,BA⟩:∃x,x=(aZ g.ms A d.1 (pW g.u0 c.pl mt l)).2.isSome:=⟨_,rfl⟩
 rw[<-kE,<-BA];refine ai 12 28 (.tuple #[.int .i64 rs,.bool rb]) cx ?_;refine ai 13 41 (.int .i64 rs) cx ?_;refine ai 14 42 (.bool rb) cx ?_;refine ai 15 4 (.int .i64 rs) cx ?_;refine ai 16 5 (.bool rb) cx ?_;simp only[Act.put,Aa,Ad,Ac];refine At (by kernel_rfl) ?_ _;refine jy ?_;have HRS:=ab kE;have YW:=ab BA;clear kE BA cx CB;go_simp;have q7:w4.cell? ⟨fb,7,none⟩=some (.int .i64 c.pl):=H4.o.aj.cell 7;have f7:w4.frozen? ⟨fb,7,none⟩=false:=H4.o.aj.frozen 7;have BU:IntKind.i64.wrap (c.pl+(d.2:Int))=c.pl+(d.2:Int):=zo (by omega) (by omega)
 cases rb with
 |false=>
  have B:=H4.o.aj.setCell 7 (.int .i64 (c.pl+(d.2:Int)));have q8:(w4.setCell ⟨fb,7,none⟩ (.int .i64 (c.pl+(d.2:Int)))).cell? ⟨fb,8,none⟩=some (.int .i64 c.re):=B.cell 8;have r7:(w4.setCell ⟨fb,7,none⟩ (.int .i64 (c.pl+(d.2:Int)))).cell? ⟨fb,7,none⟩=some (.int .i64 (c.pl+(d.2:Int))):=B.cell 7;have f8:(w4.setCell ⟨fb,7,none⟩ (.int .i64 (c.pl+(d.2:Int)))).frozen? ⟨fb,8,none⟩=false:=B.frozen 8;have HB:=ab B;have KB:Hid (aa (fun i=>i=fb) w4 (w4.setCell ⟨fb,7,none⟩ (.int .i64 (c.pl+(d.2:Int))))):=(aa.refl (fun i=>i=fb) w4).setCell (p:=⟨fb,7,none⟩) (Or.inl rfl) _;clear B;go_wp2_with fail;generalize(w4.setCell ⟨fb,7,none⟩ (.int .i64 (c.pl+(d.2:Int))))=w5 at*;clear q7 f7;go_region;go_end0;have hk:aa (fun i=>i=fb) w4 (w5.setCell ⟨fb,8,none⟩ (.int .i64 (max c.re (c.pl+(d.2:Int))))).drew:=(KB.o.setCell (p:=⟨fb,8,none⟩) (Or.inl rfl) _).drew
  have e:c.step d.2 (aZ g.ms A d.1 (pW g.u0 c.pl mt l))={c with ag:=decide (c.pl<c.re),pl:=c.pl+(d.2:Int),re:=max c.re (c.pl+(d.2:Int))}:=by
   unfold FC.step;rw[<-YW.o];simp
  refine⟨rfl,Hk,⟨?_,⟨G4.o.kept.bZ hk (fun i _ hx=>Or.inr hx),G4.o.aj⟩⟩⟩;rw[e];exact H4.o.put hk (HB.o.setCell 8 _) ⟨rfl,rfl,rfl,rfl,rfl⟩
 |true=>
  have q12:w4.cell? ⟨fb,12,none⟩=some (.int .i64 c.ma):=H4.o.aj.cell 12;have q13:w4.cell? ⟨fb,13,none⟩=some (.int .i64 c.mz):=H4.o.aj.cell 13;have q14:w4.cell? ⟨fb,14,none⟩=some (.bool c.md):=H4.o.aj.cell 14;have f12:w4.frozen? ⟨fb,12,none⟩=false:=H4.o.aj.frozen 12;have f13:w4.frozen? ⟨fb,13,none⟩=false:=H4.o.aj.frozen 13;have f14:w4.frozen? ⟨fb,14,none⟩=false:=H4.o.aj.frozen 14;have B:=(((H4.o.aj.setCell 12 (.int .i64 rs)).setCell 13 (.int .i64 c.pl)).setCell 14 (.bool true)).setCell 7 (.int .i64 (c.pl+(d.2:Int)));have q8:((((w4.setCell ⟨fb,12,none⟩ (.int .i64 rs)).setCell ⟨fb,13,none⟩ (.int .i64 c.pl)).setCell ⟨fb,14,none⟩ (.bool true)).setCell ⟨fb,7,none⟩ (.int .i64 (c.pl+(d.2:Int)))).cell? ⟨fb,8,none⟩=some (.int .i64 c.re):=B.cell 8;have r7:((((w4.setCell ⟨fb,12,none⟩ (.int .i64 rs)).setCell ⟨fb,13,none⟩ (.int .i64 c.pl)).setCell ⟨fb,14,none⟩ (.bool true)).setCell ⟨fb,7,none⟩ (.int .i64 (c.pl+(d.2:Int)))).cell? ⟨fb,7,none⟩=some (.int .i64 (c.pl+(d.2:Int))):=B.cell 7;have f8:((((w4.setCell ⟨fb,12,none⟩ (.int .i64 rs)).setCell ⟨fb,13,none⟩ (.int .i64 c.pl)).setCell ⟨fb,14,none⟩ (.bool true)).setCell ⟨fb,7,none⟩ (.int .i64 (c.pl+(d.2:Int)))).frozen? ⟨fb,8,none⟩=false:=B.frozen 8;have HB:=ab B;have KB:Hid (aa (fun i=>i=fb) w4 ((((w4.setCell ⟨fb,12,none⟩ (.int .i64 rs)).setCell ⟨fb,13,none⟩ (.int .i64 c.pl)).setCell ⟨fb,14,none⟩ (.bool true)).setCell ⟨fb,7,none⟩ (.int .i64 (c.pl+(d.2:Int))))):=((((aa.refl (fun i=>i=fb) w4).setCell (p:=⟨fb,12,none⟩) (Or.inl rfl) _).setCell (p:=⟨fb,13,none⟩) (Or.inl rfl) _).setCell (p:=⟨fb,14,none⟩) (Or.inl rfl) _).setCell (p:=⟨fb,7,none⟩) (Or.inl rfl) _;clear B;go_wp2_with fail;generalize((((w4.setCell ⟨fb,12,none⟩ (.int .i64 rs)).setCell ⟨fb,13,none⟩ (.int .i64 c.pl)).setCell ⟨fb,14,none⟩ (.bool true)).setCell ⟨fb,7,none⟩ (.int .i64 (c.pl+(d.2:Int))))=w5 at*;clear q7 f7 q12 q13 q14 f12 f13 f14;go_region;go_end0;have hk:aa (fun i=>i=fb) w4 (w5.setCell ⟨fb,8,none⟩ (.int .i64 (max c.re (c.pl+(d.2:Int))))).drew:=(KB.o.setCell (p:=⟨fb,8,none⟩) (Or.inl rfl) _).drew
  have e:c.step d.2 (aZ g.ms A d.1 (pW g.u0 c.pl mt l))={c with ag:=decide (c.pl<c.re),pl:=c.pl+(d.2:Int),re:=max c.re (c.pl+(d.2:Int)),ma:=rs,mz:=c.pl,md:=true}:=by
   unfold FC.step;rw[<-YW.o,<-HRS.o];simp
  refine⟨rfl,Hk,⟨?_,⟨G4.o.kept.bZ hk (fun i _ hx=>Or.inr hx),G4.o.aj⟩⟩⟩;rw[e];exact H4.o.put hk (HB.o.setCell 8 _) ⟨rfl,rfl,rfl,rfl,rfl⟩
