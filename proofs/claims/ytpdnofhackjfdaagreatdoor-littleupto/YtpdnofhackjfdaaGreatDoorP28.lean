/- Package whole's  -/
import Derived.Test.YtpdnofhackjfdaaGreatDoorP27
set_option linter.all false
set_option maxRecDepth 100000
set_option maxHeartbeats 8000000
namespace Go.Proofs.YtpdnofhackjfdaaGreatDoor
open Go.Proofs.Tryz
open Go.RowKit Go.Maps
variable {cs:Array Value} {p s:ByteArray} {x:CX} {told:Int} {l:List (Ev×Nat)} {R:List Ev×Nat×Int} {ms:List MS} {wf:List Nat} {N2 base cE co hi i io MP j lo:Nat} {T:Nat->ik} {g:OG} {ty:TypeId} {v v':Value} {W w w' w7 wr:World}
def zZ(s:ByteArray)(i:Nat):Nat:=if i<=(aF s).length then bd s i else s.size+1
theorem T9(h:i<=(aF s).length):zZ s i=bd s i:=if_pos h
theorem T8(h:(aF s).length<i):zZ s i=s.size+1:=if_neg (by omega)
theorem aaX(h:i<=(aF s).length):bd s i<zZ s (i+1)/\zZ s (i+1)<=bd s i+4:=by
 by_cases hl:i<(aF s).length
 ·rw[T9 (by omega)];exact pJ hl
 ·rw[T8 (by omega)];have:=mP (s:=s) (i:=i) (by omega);omega
theorem ae9(w:World)(s:ByteArray)(i:Nat)(hi:i<=(aF s).length)(hs:s.size<=10000000)(hT:jf w):Calls prog 62 #[.string s,.int .i64 (bd s i:Int)] w fun e w'=>e=.returned (.int .i64 ((zZ s (i+1):Int)-(bd s i:Int)))/\aa af w w':=by
 by_cases hl:i<(aF s).length
 ·rw[T9 (by omega)];exact ae8 w s i hl hs hT
 ·refine(ae_ s (bd s i) w (iQ s i) (by omega) hT).mono ?_;rintro e w' ⟨rfl,hk⟩;refine⟨?_,hk⟩;have hb:=mP (s:=s) (i:=i) (by omega);rw[T8 (by omega),hb]
  have e0:(s.extract s.size s.size)=ByteArray.empty:=by
   apply Fd
   simp
  rw[e0];have e1:(Lib.decodeGo ByteArray.empty).2=0:=by kernel_rfl
  rw[e1];congr 2;omega
def zT(x:CX)(N2:Nat)(e:Ev)(gb:Nat):List Value:=[.int .i64 (x.aY e.a),.int .i64 (x.aY e.b),.slice (some ⟨gb,0,none⟩) N2 N2,.string (x.s.extract (bd x.s e.a) (bd x.s e.b))]
def ER(x:CX)(N2:Nat)(l:List (Ev×Nat)):List Value:=l.flatMap fun p=>zT x N2 p.1 p.2
structure nV(w:World)(base:Nat)(v:Value)(x:CX)(N2:Nat)(l:List (Ev×Nat)):Prop where
 row:w.ownsRow base 46 4 v l.length (ER x N2 l)
 iS:∀p∈l,base<=p.2/\aq w p.2 (cY p.1.gs).toArray 3
theorem nV.nil(w:World)(base:Nat)(x:CX)(N2:Nat):nV w base (.slice none 0 0) x N2 []:=⟨A6 _ _ _ _,fun p h=>by cases h⟩
theorem nV.kept{K:Nat->Prop}(h:nV w base v x N2 l)(k:aa K w w')(hK:∀i,base<=i->¬K i):nV w' base v x N2 l:=
 ⟨bY h.row k (fun b hb=>hK b (dE h.row hb).1),fun p hp=>⟨(h.iS p hp).1,(h.iS p hp).2.kept k (hK _ (h.iS p hp).1)⟩⟩
theorem ahB(x:CX)(N2:Nat)(l:List (Ev×Nat))(p:Ev×Nat):ER x N2 (l++[p])=ER x N2 l++zT x N2 p.1 p.2:=by unfold ER;simp
theorem nV.QY(h:nV w base v x N2 l){b:Nat}(hb:aq w b cs 3):v.ownBlock≠some b:=fun e=>by
 rcases h.row.2 with⟨rfl,_⟩|⟨g,cap,aM,rfl,a1,a2,r⟩
 ·simp[Value.ownBlock]at e
 ·simp[Value.ownBlock]at e
  subst e;unfold aq at hb;rw[a2]at hb;simp at hb
theorem nV.push(h:nV w base v x N2 l)(k0:aa af w W){p:Ev×Nat}(hp:base<=p.2/\aq w p.2 (cY p.1.gs).toArray 3)
 (bt:w7.ownsRow base 46 4 v' (l.length+1) (ER x N2 l++zT x N2 p.1 p.2))(hg:W.grownBy w7 v.ownBlock):nV w7 base v' x N2 (l++[p])/\aa (fun i=>base<=i) w w7:=by
 have k7:aa (fun j=>v.ownBlock=some j) w w7:=(k0.mono (fun i hx=>hx.elim)).eQ hg (fun j hj=>Or.inl hj);refine⟨⟨by rw[Aj,ahB];exact bt,fun q hq=>?_⟩,k7.mono (fun i hi=>(dE h.row hi).1)⟩;rcases Al.1 hq with hq|hq
 ·exact⟨(h.iS q hq).1,(h.iS q hq).2.kept k7 (h.QY (h.iS q hq).2)⟩
 ·simp at hq
  subst hq;exact⟨hp.1,hp.2.kept k7 (h.QY hp.2)⟩
def CX.fr(x:CX)(i:Nat):Int:=x.aB+(zZ x.s i:Int)
theorem CX.LJ(h:i<=x.n):x.fr i=x.aY i:=by unfold CX.fr CX.aY;rw[T9 h]
structure pG(w wr:World)(g:OG)(base cE:Nat)(wf:List Nat)(N2 io:Nat)(v:Value)(l:List (Ev×Nat)):Prop where
 o:∃aj wd,oV wr g aj wf wd/\g.aD.getD aj 0<=io
 cO:nV wr base v g.x N2 l
 kept:aa (fun i=>i=g.ob\/i=g.WB\/i=cE) w wr
structure xO(w wr:World)(g:OG)(base cE co:Nat)(cs:Array Value)(ty:TypeId)(wf:List Nat)(T:Nat->ik)(R:List Ev×Nat×Int)(N2:Nat)(i:Nat)(told:Int)(v:Value)(l:List (Ev×Nat)):Prop where
 xn:i<=g.x.n+1
 pt:pG w wr g base cE wf N2 i v l
 wO:aq wr cE (om cs co (g.x.fr i) told) ty
 rest:l.map (·.1)++(eP T g.x.n g.x.aY g.x.op i told).1=R.1/\(eP T g.x.n g.x.aY g.x.op i told).2=R.2
 bJ:l.length<=i
theorem Tryz.VV:(prog.info? 46).map (fun i=>(i.zero,i.size,i.bytes))=some (some (.agg #[.int .i64 0,.int .i64 0,.slice none 0 0,.string ⟨#[]⟩]),4,56):=by kernel_rfl
def XZ(oY b4:Nat)(x y:Int)(s:ByteArray)(bg:Int)(W:World):Prop:=(W.cell? ⟨oY,0,none⟩=some (.int .i64 x)/\W.cell? ⟨oY,1,none⟩=some (.int .i64 y))/\W.cell? ⟨b4,0,none⟩=some (.string s)/\W.cell? ⟨b4,1,none⟩=some (.int .i64 bg)
def XY(cE co b4:Nat)(f:Int)(s:ByteArray)(W:World):Prop:=W.cell? ⟨cE,co,none⟩=some (.int .i64 f)/\W.cell? ⟨b4,0,none⟩=some (.string s)
theorem il.one{aj B:Nat}{wr:List Nat}(h:il w g aj wf wr)(k:aa (fun i=>i=B) w w')(h1:B≠g.ob/\B≠g.mb/\¬(g.lo<=B/\B<g.hi))(h2:B≠0/\B≠1)(h3:B≠g.cN/\B≠g.fh/\B≠g.rh)(h4:B≠g.FB/\B≠g.WB):il w' g aj wf wr where
 rk:=h.rk.kept k (fun e=>h1.1 e.symm) (fun e=>h1.2.1 e.symm) (fun i a b e=>h1.2.2 (by subst e;exact⟨a,b⟩)) (fun e=>h2.1 e.symm) (fun e=>h2.2 e.symm)
 bg i hi:=(k.cell (p:=⟨g.cN,i,none⟩) h.lt.1 (fun e=>h3.1 e.symm)).trans (h.bg i hi)
 fh i hi:=(k.cell (p:=⟨g.fh,i,none⟩) h.lt.2.1 (fun e=>h3.2.1 e.symm)).trans (h.fh i hi)
 rh i hi:=(k.cell (p:=⟨g.rh,i,none⟩) h.lt.2.2 (fun e=>h3.2.2 e.symm)).trans (h.rh i hi)
 lt:=by have:=k.size;have:=h.lt;omega
 bf:=h.bf.kept k (fun e=>h4.1 e.symm)
 bw:=h.bw.kept k (fun e=>h4.2 e.symm)
 fl:=h.fl
 wl:=h.wl
theorem pG.jZ(h:pG w wr g base cE wf N2 io v l)(k:aa af wr w'):pG w w' g base cE wf N2 io v l:=by
 obtain⟨aj,wd,o1,o2⟩:=h.o;exact⟨⟨aj,wd,o1.kept k,o2⟩,h.cO.kept k (fun _ _ h=>h),h.kept.trans (k.mono (fun _ h=>h.elim))⟩
theorem xO.jZ(h:xO w wr g base cE co cs ty wf T R N2 i told v l)(k:aa af wr w'):xO w w' g base cE co cs ty wf T R N2 i told v l:=
 ⟨h.xn,h.pt.jZ k,h.wO.kept k (fun h=>h),h.rest,h.bJ⟩
theorem pG.WD(h:pG w wr g base cE wf N2 io v l)(k:aa (fun i=>i=g.ob\/i=g.WB) wr w')(hb:g.below base)(ho:∃aj wd,oV w' g aj wf wd/\g.aD.getD aj 0<=MP):pG w w' g base cE wf N2 MP v l:=by
 refine⟨ho,h.cO.kept k (fun i hi e=>?_),h.kept.trans (k.mono (fun i e=>by rcases e with e|e;exact Or.inl e;exact Or.inr (Or.inl e)))⟩;unfold OG.below at hb;omega
theorem pG.one(h:pG w wr g base cE wf N2 io v l)(k:aa (fun i=>i=cE) wr w')(I5:(cE≠g.ob/\cE≠g.mb/\¬(g.lo<=cE/\cE<g.hi))/\(cE≠g.cN/\cE≠g.fh/\cE≠g.rh)/\cE≠g.FB/\cE≠g.WB)(yt:cE≠0/\cE≠1)(FQ:cE<base):pG w w' g base cE wf N2 io v l:=by
 obtain⟨aj,wd,o1,o2⟩:=h.o;exact⟨⟨aj,wd,⟨o1.at_.one k I5.1 yt I5.2.1 I5.2.2,o1.lt,o1.LF,o1.rows⟩,o2⟩,h.cO.kept k (fun i hi e=>by omega),h.kept.trans (k.mono (fun i e=>Or.inr (Or.inr e)))⟩
theorem pG.later(h:pG w wr g base cE wf N2 io v l)(hi:io<=MP):pG w wr g base cE wf N2 MP v l:=by
 obtain⟨aj,wd,o1,o2⟩:=h.o;exact⟨⟨aj,wd,o1,by omega⟩,h.cO,h.kept⟩
theorem pG.push(h:pG w wr g base cE wf N2 io v l)(hb:g.below base)(hw:base=w.heap.size)(k0:aa af wr W){p:Ev×Nat}(hp:base<=p.2/\aq wr p.2 (cY p.1.gs).toArray 3)
 (bt:w7.ownsRow base 46 4 v' (l.length+1) (ER g.x N2 l++zT g.x N2 p.1 p.2))(hg:W.grownBy w7 v.ownBlock):pG w w7 g base cE wf N2 io v' (l++[p])/\aa (fun i=>base<=i) wr w7:=by
 obtain⟨e1,k1⟩:=h.cO.push k0 hp bt hg;obtain⟨aj,wd,o1,o2⟩:=h.o;exact⟨⟨⟨aj,wd,o1.wP hb k1,o2⟩,e1,h.kept.bZ k1 (fun i hi e=>by omega)⟩,k1⟩
theorem Z1(hi:i<=x.n)(hj:j<=x.n)(h:x.aY i=x.aY j):i=j:=by
 unfold CX.aY at h;exact OY hi hj (by omega)
theorem amK(mq:mJ T x.n){jH:List Int}(hi:i<=x.n)(hj:j<=x.n)(cy:i<=j)(hT:T i=some (j,jH))(ho:(x.op&&decide (x.n<=j))=false){pC:Int}(hw:x.aY j+pC=x.fr (j+1)):
 ∃(rb:Bool) (i':Nat),(!((x.aY i==x.aY j)&&(x.aY j==told)))=rb/\(if x.aY i=x.aY j then x.aY j+pC else x.aY j)=x.fr i'/\(i<i'/\i'<=x.n+1/\j<=i')/\(rb=true->eP T x.n x.aY x.op i told=(⟨i,j,jH⟩::(eP T x.n x.aY x.op i' (x.aY j)).1,(eP T x.n x.aY x.op i' (x.aY j)).2))/\(rb=false->eP T x.n x.aY x.op i told=eP T x.n x.aY x.op i' (x.aY j)):=by
 have ku:=IP (b:=x.aY) (op:=x.op) (told:=told) mq hi hT ho;by_cases e:i=j
 ·subst e;rw[if_pos rfl]at ku;by_cases e2:told=x.aY i
  ·rw[if_pos e2]at ku;exact⟨false,i+1,by simp[e2],by rw[if_pos rfl];exact hw,by omega,fun h=>(by cases h),fun _=>by rw[ku,e2]⟩
  ·rw[if_neg e2]at ku;exact⟨true,i+1,by simp;exact fun h=>e2 h.symm,by rw[if_pos rfl];exact hw,by omega,fun _=>ku,fun h=>(by cases h)⟩
 ·rw[if_neg e]at ku;have az:x.aY i≠x.aY j:=fun h=>e (Z1 hi hj h)
  have hb:(x.aY i==x.aY j)=false:=by simpa using az
  refine⟨true,j,by rw[hb];rfl,by rw[if_neg az,CX.LJ hj],by omega,fun _=>ku,fun h=>(by cases h)⟩
theorem afq{mb c u0 G2 i0:Nat}{NN:Int}{vs:List Sv}(hM:jt w lo hi mb c vs ms)(iI:eW ms)(hq:iL (G2:Int) ms)(dw:ms.length<=4001)(hs:x.s.size<=10000000)(I1:0<=x.aB/\x.aB<=1000000000000)(uh:u0<ms.length)(Ps:G2<=100000)
 (hT:∀i,i<=x.n->cZ ms x (u0:Int) i (List.replicate (2*G2) (-1))=T i)(mq:mJ T x.n)(hc:aq w cE (om cs co (x.fr i0) NN) ty)(FT:co+1<cs.size)(cS:i0<=x.n+1)(hR:eP T x.n x.aY x.op i0 NN=R)(FQ:cE≠mb/\¬(lo<=cE/\cE<hi)/\cE≠0/\cE≠1):
 Calls prog 42 #[.agg #[.slice (some ⟨mb,0,none⟩) ms.length c,.int .i64 (u0:Int),.int .i64 (G2:Int)],.agg #[.string x.s,.int .i64 x.aB,.int .i32 x.ah,.int .i32 x.bh,.bool x.op],.pointer (some ⟨cE,co,none⟩)] w fun e w'=>∃(v:Value) (l:List (Ev×Nat)),e=.returned v/\nV w' w.heap.size v x (2*G2) l/\l.map (·.1)=R.1/\aq w' cE (om cs co (x.fr R.2.1) R.2.2) ty/\aa (fun i=>i=cE) w w':=by
 have HM:=ab hM;have pH:=ab iI;have HQ:=ab hq;have HT:=ab hT;have mL:=ab mq;have HC:=ab hc;have KH:=ab hR;have fy:=hc.lt;obtain⟨ie,oz,Jq,kV,FP⟩:=Bp Tryz.VV;clear hM iI hq hT mq hc hR;go_in;go_wp2_with fail;have B3:Hid (aq ((w.alloc (.cells #[.slice (some ⟨mb,0,none⟩) ms.length c,.int .i64 (u0:Int),.int .i64 (G2:Int)] 73)).alloc (.cells #[.string x.s,.int .i64 x.aB,.int .i32 x.ah,.int .i32 x.bh,.bool x.op] 105)) w.heap.size #[.slice (some ⟨mb,0,none⟩) ms.length c,.int .i64 (u0:Int),.int .i64 (G2:Int)] 73):=(aq.new w _ _).alloc _
 have B4:Hid (aq ((w.alloc (.cells #[.slice (some ⟨mb,0,none⟩) ms.length c,.int .i64 (u0:Int),.int .i64 (G2:Int)] 73)).alloc (.cells #[.string x.s,.int .i64 x.aB,.int .i32 x.ah,.int .i32 x.bh,.bool x.op] 105)) (w.heap.size+1) #[.string x.s,.int .i64 x.aB,.int .i32 x.ah,.int .i32 x.bh,.bool x.op] 105):=by
  have:=aq.new (w.alloc (.cells #[.slice (some ⟨mb,0,none⟩) ms.length c,.int .i64 (u0:Int),.int .i64 (G2:Int)] 73)) #[.string x.s,.int .i64 x.aB,.int .i32 x.ah,.int .i32 x.bh,.bool x.op] 105;rw[fO]at this;exact this
 have K1:Hid (aa af w ((w.alloc (.cells #[.slice (some ⟨mb,0,none⟩) ms.length c,.int .i64 (u0:Int),.int .i64 (G2:Int)] 73)).alloc (.cells #[.string x.s,.int .i64 x.aB,.int .i32 x.ah,.int .i32 x.bh,.bool x.op] 105))):=((aa.refl af w).alloc _).alloc _;have cU:((w.alloc (.cells #[.slice (some ⟨mb,0,none⟩) ms.length c,.int .i64 (u0:Int),.int .i64 (G2:Int)] 73)).alloc (.cells #[.string x.s,.int .i64 x.aB,.int .i32 x.ah,.int .i32 x.bh,.bool x.op] 105)).heap.size=w.heap.size+1+1:=by simp
 generalize((w.alloc (.cells #[.slice (some ⟨mb,0,none⟩) ms.length c,.int .i64 (u0:Int),.int .i64 (G2:Int)] 73)).alloc (.cells #[.string x.s,.int .i64 x.aB,.int .i32 x.ah,.int .i32 x.bh,.bool x.op] 105))=w1 at*
 have F:=ab (ac0 (st:=(u0:Int)) (G:=(G2:Int)) (HM.o.kept K1.o) pH.o HQ.o dw hs I1);refine(F.o).mono ?_;rintro e w2 ⟨g,wf,wd,rfl,qA,yv,hO,k2⟩
 have du:Hid (xO w2 w2 g w2.heap.size cE co cs ty wf T R (2*G2) i0 NN (.slice none 0 0) []):=by
  have hk:=K1.o.trans k2;have ex:g.x=x:=qA.2.1;refine⟨by rw[ex];exact cS,⟨⟨0,wd,hO,by rw[yv.bg.zero];exact Ao _⟩,nV.nil _ _ _ _,aa.refl _ _⟩,?_,?_,Ao _⟩
  ·rw[ex];exact HC.o.kept hk (fun h=>h)
  ·rw[ex,KH.o];exact⟨rfl,rfl⟩
 have mK:=ab qA;have kJ:=ab yv;have Oa:=ab hO.at_.below;have B32:=ab (B3.o.kept k2 (fun h=>h));have B42:=ab (B4.o.kept k2 (fun h=>h));have K2:=ab (K1.o.trans k2);have ajM:=k2.size;have egs:g.x=x:=qA.2.1;have egm:g.ms=ms:=qA.1;have lF:Hid (g.st=(u0:Int)):=qA.2.2.1;have Sz:Hid (g.G=(G2:Int)):=qA.2.2.2.1;have ap7:w.heap.size+1+1<=g.ob/\w.heap.size+1+1<=g.WB:=by rw[<-cU];exact⟨qA.2.2.2.2.2.2.2.1,qA.2.2.2.2.2.2.2.2.1⟩
 have Kh:Hid ((cE≠g.ob/\cE≠g.mb/\¬(g.lo<=cE/\cE<g.hi))/\(cE≠g.cN/\cE≠g.fh/\cE≠g.rh)/\cE≠g.FB/\cE≠g.WB):=by
  obtain⟨e1,e2,e3,e4,e5,e6,e7,e8,e9,vd,sE,yf,EJ,EK,EM⟩:=qA;rw[e5,vd,sE];exact⟨⟨by omega,FQ.1,FQ.2.1⟩,⟨by omega,by omega,by omega⟩,by omega,by omega⟩
 clear qA yv hO k2 F B3 B4;subst egs egm;go_wp2_with fail;go_loopg [7] (g.x.n+1-i0) (fun kk v wr=>∃(i:Nat) (told:Int) (l:List (Ev×Nat)),kk=g.x.n+1-i/\Hid (xO w2 wr g w2.heap.size cE co cs ty wf T R (2*G2) i told v l))
 case atStart=>exact⟨i0,NN,[],rfl,du⟩
 case round=>
  obtain⟨i,told,l,eZ,HI⟩:=hrel;clear du;have cC:wr.cell? ⟨cE,co,none⟩=some (.int .i64 (g.x.fr i)):=(HI.o.wO.cell co).trans (Pb FT _ _);have b4:=B42.o.kept HI.o.pt.kept (by show¬(w.heap.size+1=g.ob\/w.heap.size+1=g.WB\/w.heap.size+1=cE);omega);have b3:=B32.o.kept HI.o.pt.kept (by show¬(w.heap.size=g.ob\/w.heap.size=g.WB\/w.heap.size=cE);omega);have t0:wr.cell? ⟨w.heap.size+1,0,none⟩=some (.string g.x.s):=b4.cell 0;have t1:wr.cell? ⟨w.heap.size+1,1,none⟩=some (.int .i64 g.x.aB):=b4.cell 1;have m1:wr.cell? ⟨w.heap.size,1,none⟩=some (.int .i64 (u0:Int)):=b3.cell 1;have uG:=ab b3;have jP:=ab b4;clear b3 b4;obtain⟨ao,cv,hv⟩:=cK HI.o.pt.cO.row;subst hv;by_cases dR:i<=g.x.n
  ·have PQ:=iQ g.x.s i;rw[CX.LJ dR]at cC;have nG:g.x.aY i=g.x.aB+(bd g.x.s i:Int):=rfl;have hle:g.x.aY i<=g.x.aB+(g.x.s.size:Int):=(by omega);have jX:g.x.aY i-g.x.aB=(bd g.x.s i:Int):=(by omega);have HBD:=ab nG;clear nG;go_wp2_with fail;go_big_quiet (fail);have YE:=ab (HI.o.jZ ((aa.refl af wr).drewN nq));have X_:Hid (aq (wr.drewN nq) w.heap.size #[.slice (some ⟨mb,0,none⟩) g.ms.length c,.int .i64 (u0:Int),.int .i64 (G2:Int)] 73):=uG.o;have Yb:Hid (aq (wr.drewN nq) (w.heap.size+1) #[.string g.x.s,.int .i64 g.x.aB,.int .i32 g.x.ah,.int .i32 g.x.bh,.bool g.x.op] 105):=jP.o;have cCa:(wr.drewN nq).cell? ⟨cE,co,none⟩=some (.int .i64 (g.x.aY i)):=cC;have t1a:(wr.drewN nq).cell? ⟨w.heap.size+1,1,none⟩=some (.int .i64 g.x.aB):=t1;have m1a:(wr.drewN nq).cell? ⟨w.heap.size,1,none⟩=some (.int .i64 (u0:Int)):=m1;generalize wr.drewN nq=wa at*;clear HI uG jP cC t0 t1 m1;go_wp2_with fail;go_big_quiet (fail);have tH:=ab (YE.o.jZ ((aa.refl af wa).drewN nq));have Ya:Hid (aq (wa.drewN nq) w.heap.size #[.slice (some ⟨mb,0,none⟩) g.ms.length c,.int .i64 (u0:Int),.int .i64 (G2:Int)] 73):=X_.o;have N_:Hid (aq (wa.drewN nq) (w.heap.size+1) #[.string g.x.s,.int .i64 g.x.aB,.int .i32 g.x.ah,.int .i32 g.x.bh,.bool g.x.op] 105):=Yb.o;have m1b:(wa.drewN nq).cell? ⟨w.heap.size,1,none⟩=some (.int .i64 (u0:Int)):=m1a;generalize wa.drewN nq=wb at*;clear YE X_ Yb cCa t1a m1a;obtain⟨aj,wd,hO,nG⟩:=tH.o.pt.o;have F:=TF kJ.o hO (u:=u0) uh dR nG;have HR:=ab (HT.o i dR);have qg:=ab hO;have DB:=ab nG;clear hO nG
   cases IY:T i with
   |none=>
    rw[Nk pH.o g.x uh dR (List.replicate (2*G2) (-1)),HR.o,IY]at F;simp only[Dc]at F;have F:=ab F;have Ox:=ab IY;clear IY;go_wp2_with fail;refine(F.o).mono ?_;rintro e w5 ⟨rfl,u7,wk,o5,gx,k5⟩;have uI:Hid (xO w2 w5 g w2.heap.size cE co cs ty wf T R (2*G2) i told (.slice ao l.length cv) l):=⟨tH.o.xn,tH.o.pt.WD k5 Oa.o ⟨u7,wk,o5,gx⟩,tH.o.wO.kept k5 (by have:=Kh.o;omega),tH.o.rest,tH.o.bJ⟩;have J8:=ab (N_.o.kept k5 (by show¬(w.heap.size+1=g.ob\/w.heap.size+1=g.WB);omega));have xY:=ab o5.at_.rk.j8;clear o5 gx k5 F tH Ya N_ m1b qg DB HR;go_wp2_with fail
    have PS:Hid (∀W,aa af w5 W->XY cE co (w.heap.size+1) (g.x.aY i) g.x.s W):=fun W k=>by
     have a1:=((uI.o.wO.kept k (fun h=>h)).cell co).trans (Pb FT _ _);rw[CX.LJ dR]at a1;exact⟨a1,(J8.o.kept k (fun h=>h)).cell 0⟩
    have ak:=PS.o w5.drew (aa.refl af w5).drew;refine j9 (gW (S:=XY cE co (w.heap.size+1) (g.x.aY i) g.x.s) 11 (by kernel_rfl) rfl rfl rfl (by kernel_rfl) (by kernel_rfl) ?_);refine ai 0 39 (.pointer (some ⟨cE,co,none⟩)) ak ?_;refine ai 1 40 (.pointer (some ⟨cE,co,none⟩)) ak ?_;refine ai 2 41 (.pointer (some ⟨cE,co,none⟩)) ak ?_;refine ai 3 42 (.int .i64 (g.x.aY i)) ak ?_;refine ai 4 43 (.pointer (some ⟨w.heap.size+1,0,none⟩)) ak ?_;refine ai 5 44 (.string g.x.s) ak ?_;refine ai 6 45 (.int .i64 (bd g.x.s i:Int)) ak ?_;simp only[Act.put,Aa,Ad,Ac];refine bQ 7 fun K hK=>?_
    have F2:=ae9 w5.drew g.x.s i dR hs (xY.o.jZ (aa.refl af w5).drew);obtain⟨pC,pT⟩:∃pC,pC=(zZ g.x.s (i+1):Int)-(bd g.x.s i:Int):=⟨_,rfl⟩
    rw[<-pT]at F2;have yn:g.x.aY i+pC=g.x.fr (i+1):=by unfold CX.aY CX.fr;omega
    have Gk:=aaX dR;have BU:IntKind.i64.wrap (g.x.fr (i+1))=g.x.fr (i+1):=by rw[Cx];unfold CX.fr;omega
    have F2:=ab F2;clear pT;go_simp;refine(F2.o).mono ?_;rintro e w6 ⟨rfl,k6⟩;dsimp only;have K6:Hid (aa af w5 w6):=(aa.refl af w5).drew.trans k6;refine hK.o _ _ (PS.o _ K6.o) (fun _=>?_);clear hK K k6 F2;refine bQ 8 fun K hK=>?_
    go_simp;refine hK.o _ _ (PS.o _ K6.o) (fun _=>?_);clear hK K;refine bQ 9 fun K hK=>?_
    go_simp;refine hK.o _ _ (PS.o _ K6.o) (fun _=>?_);clear hK K;refine bQ 10 fun K hK=>?_
    go_simp;refine hK.o _ _ (PS.o _ K6.o) (fun _=>?_);clear hK K;refine At (by kernel_rfl) ?_ _;unfold eN;simp only[Ak,Ah,Ai];have I2:=uI.o.wO.kept K6.o (fun h=>h);have x6:w6.cell? ⟨cE,co,none⟩=some (.int .i64 (g.x.fr i)):=(I2.cell co).trans (Pb FT _ _);have y6:=I2.frozen co
    have ax:Hid (xO w2 (w6.setCell ⟨cE,co,none⟩ (.int .i64 (g.x.fr (i+1)))) g w2.heap.size cE co cs ty wf T R (2*G2) (i+1) told (.slice ao l.length cv) l):=by
     have k:aa (fun i=>i=cE) w6 (w6.setCell ⟨cE,co,none⟩ (.int .i64 (g.x.fr (i+1)))):=(aa.refl (fun i=>i=cE) w6).setCell (p:=⟨cE,co,none⟩) (Or.inl rfl) _;refine⟨by omega,((uI.o.pt.jZ K6.o).one k Kh.o FQ.2.2 (by omega)).later (Nat.le_succ _),?_,?_,Nat.le_succ_of_le uI.o.bJ⟩
     ·have:=I2.setCell co (.int .i64 (g.x.fr (i+1)));rw[IJ]at this;exact this
     ·rw[<-IN dR Ox.o];exact uI.o.rest
    clear I2 PS ak K6 uI J8 xY;go_simp;refine jy ?_;go_wp2_with fail;go_roundg (g.x.n+1-(i+1))
    case measure=>omega
    case rel=>exact⟨i+1,told,l,rfl,ax⟩
   |some v=>
    obtain⟨j,jH⟩:=v;rw[IY]at HR;rw[Nk pH.o g.x uh dR (List.replicate (2*G2) (-1)),HR.o]at F;simp only[Fc]at F;have F:=ab F;have Ox:=ab IY;clear IY;go_wp2_with fail;refine(F.o).mono ?_;rintro e w5 ⟨rfl,u7,wk,o5,gx,k5⟩;have xT:=ab (tH.o.pt.WD k5 Oa.o ⟨u7,wk,o5,gx⟩);have Yn:=ab (tH.o.wO.kept k5 (by have:=Kh.o;omega));have J8:=ab (N_.o.kept k5 (by show¬(w.heap.size+1=g.ob\/w.heap.size+1=g.WB);omega));have Il:=ab tH.o.rest;have hlf:=tH.o.bJ;have F2:=ab (acI kJ.o o5 dR gx lF.o uh Sz.o Ps HR.o);have QA:w2.heap.size<=w5.heap.size:=xT.o.kept.size;clear o5 gx k5 F tH Ya N_ m1b qg DB;go_wp2_with fail;refine(F2.o).mono ?_;rintro e w6 ⟨hA,hB,af7,wd6,o6,hb6,k6⟩;have bP:=Hp pH.o g.x uh dR _ j jH HR.o;have vC:j<=g.x.n:=bP.2.1;have cy:=bP.1;have KE:=ab (xT.o.WD k6 Oa.o ⟨af7,wd6,o6,hb6⟩);have Od:=ab (Yn.o.kept k6 (by have:=Kh.o;omega));have R9:=ab (J8.o.kept k6 (by show¬(w.heap.size+1=g.ob\/w.heap.size+1=g.WB);omega));have zx:=ab o6.at_.rk.j8;have VA:=k6.size;have apX:=iQ g.x.s j;have Yj:Hid (g.x.aY j=g.x.aB+(bd g.x.s j:Int)):=(rfl:_=_);have hpj:g.x.aY j-g.x.aB=(bd g.x.s j:Int):=by have:=Yj.o;omega
    clear bP o6 hb6 k6 F2 xT Yn J8
    cases pQ:(g.x.op&&decide (g.x.n<=j))with
    |true=>
     have he:=hB pQ;subst he
     have ax:Hid (nV w6 w.heap.size (.slice ao l.length cv) g.x (2*G2) l/\l.map (·.1)=R.1/\aq w6 cE (om cs co (g.x.fr R.2.1) R.2.2) ty/\aa (fun i=>i=cE) w w6):=by
      have eh:g.x.op=true/\g.x.n<=j:=(by simpa using pQ);have hr:=Il.o;rw[eh.1,aaK dR Ox.o eh.2,C8]at hr;have he:=KE.o.cO;refine⟨⟨CN he.row (by omega),fun p hp=>⟨by have:=(he.iS p hp).1;omega,(he.iS p hp).2⟩⟩,hr.1,?_,(K2.o.mono (S':=fun i=>i=cE) (fun _ h=>h.elim)).bZ KE.o.kept (fun i hi e=>by omega)⟩;rw[<-hr.2];exact Od.o
     clear hA hB pQ KE Od R9 zx Il;go_wp2_with fail;go_ret;exact⟨_,l,rfl,ax.o.1.kept ((aa.refl af w6).alloc _) (fun _ _ h=>h),ax.o.2.1,ax.o.2.2.1.kept ((aa.refl af w6).alloc _) (fun h=>h),ax.o.2.2.2.alloc _⟩
    |false=>
     obtain⟨gb,he,kT,AB⟩:=hA pQ;subst he;have xQ:=ab AB;have KM:=ab pQ;clear hA hB pQ AB;go_wp2_with fail;have ly:aa af w6 (w6.alloc (.cells #[.int .i64 (g.x.aY i),.int .i64 (g.x.aY j),.slice (some ⟨gb,0,none⟩) (2*G2) (2*G2),.string (g.x.s.extract (bd g.x.s i) (bd g.x.s j))] 46)):=(aa.refl af w6).alloc _;have YS:=ab (KE.o.jZ ly);have Yo:=ab (Od.o.kept ly (fun h=>h));have R_:=ab (R9.o.kept ly (fun h=>h));have Yf:=ab (xQ.o.kept ly (fun h=>h));have zy:=ab (zx.o.jZ ly);have J7:Hid (aq (w6.alloc (.cells #[.int .i64 (g.x.aY i),.int .i64 (g.x.aY j),.slice (some ⟨gb,0,none⟩) (2*G2) (2*G2),.string (g.x.s.extract (bd g.x.s i) (bd g.x.s j))] 46)) w6.heap.size #[.int .i64 (g.x.aY i),.int .i64 (g.x.aY j),.slice (some ⟨gb,0,none⟩) (2*G2) (2*G2),.string (g.x.s.extract (bd g.x.s i) (bd g.x.s j))] 46):=aq.new w6 _ _;have Jj:w6.heap.size<(w6.alloc (.cells #[.int .i64 (g.x.aY i),.int .i64 (g.x.aY j),.slice (some ⟨gb,0,none⟩) (2*G2) (2*G2),.string (g.x.s.extract (bd g.x.s i) (bd g.x.s j))] 46)).heap.size:=(by simp);generalize w6.alloc (.cells #[.int .i64 (g.x.aY i),.int .i64 (g.x.aY j),.slice (some ⟨gb,0,none⟩) (2*G2) (2*G2),.string (g.x.s.extract (bd g.x.s i) (bd g.x.s j))] 46)=w7 at*;obtain⟨oY,abp⟩:∃oY,oY=w6.heap.size:=⟨_,rfl⟩
     rw[<-abp]at J7 Jj VA⊢;clear abp ly KE Od R9 xQ zx;have PS:Hid (∀W,aa af w7 W->XZ oY (w.heap.size+1) (g.x.aY i) (g.x.aY j) g.x.s g.x.aB W):=(fun W k=>⟨⟨(J7.o.kept k (fun h=>h)).cell 0,(J7.o.kept k (fun h=>h)).cell 1⟩,(R_.o.kept k (fun h=>h)).cell 0,(R_.o.kept k (fun h=>h)).cell 1⟩);have ak:=PS.o w7.drew (aa.refl af w7).drew;refine j9 (gW (S:=XZ oY (w.heap.size+1) (g.x.aY i) (g.x.aY j) g.x.s g.x.aB) 13 (by kernel_rfl) rfl rfl rfl (by kernel_rfl) (by kernel_rfl) ?_);refine ai 0 58 (.pointer (some ⟨cE,co,none⟩)) ak ?_;refine ai 1 59 (.pointer (some ⟨oY,0,none⟩)) ak ?_;refine ai 2 60 (.int .i64 (g.x.aY i)) ak ?_;refine ai 3 61 (.pointer (some ⟨oY,1,none⟩)) ak ?_;refine ai 4 62 (.int .i64 (g.x.aY j)) ak ?_;refine ai 5 63 (.pointer (some ⟨w.heap.size+1,0,none⟩)) ak ?_;refine ai 6 64 (.string g.x.s) ak ?_;refine ai 7 65 (.pointer (some ⟨oY,1,none⟩)) ak ?_;refine ai 8 66 (.int .i64 (g.x.aY j)) ak ?_;refine ai 9 67 (.pointer (some ⟨w.heap.size+1,1,none⟩)) ak ?_;refine ai 10 68 (.int .i64 g.x.aB) ak ?_;refine pA 11 69 (.int .i64 (bd g.x.s j:Int)) rfl rfl (by kernel_rfl) (by kernel_rfl) (by kernel_rfl) (fun _ _ _ h=>h) (Or.inl ⟨by rfl,fun W eT=>by obtain⟨⟨s0,s1⟩,s2,s3⟩:=eT;go_simp;rw[Cx];omega⟩) ak ?_;simp only[Act.put,Aa,Ad,Ac];refine bQ 12 fun K hK=>?_
     have F2:=ae9 w7.drew g.x.s j vC hs (zy.o.jZ (aa.refl af w7).drew);obtain⟨pC,pT⟩:∃pC,pC=(zZ g.x.s (j+1):Int)-(bd g.x.s j:Int):=⟨_,rfl⟩
     rw[<-pT]at F2;have yn:g.x.aY j+pC=g.x.fr (j+1):=by unfold CX.aY CX.fr;omega
     have Gk:=aaX vC;have BU:0<=pC/\pC<=4:=(by omega);have HAD:=ab yn;have F2:=ab F2;clear pT yn Gk;go_simp;refine(F2.o).mono ?_;rintro e w8 ⟨rfl,k8⟩;dsimp only;have K8:Hid (aa af w7 w8):=(aa.refl af w7).drew.trans k8;refine hK.o _ _ (PS.o _ K8.o) (fun _=>?_);clear hK K k8 F2;refine At (by kernel_rfl) ?_ _;unfold eN;simp only[Ak,Ah,Ai];have F3:=adW w8 cE co cs ty (g.x.fr i) told (g.x.aY i) (g.x.aY j) pC (Yo.o.kept K8.o (fun h=>h)) FT (by have:=Yj.o;omega) BU;obtain⟨rb,i',BA,ml,hi',abw,abx⟩:=amK (told:=told) mL.o dR vC cy Ox.o KM.o HAD.o;rw[BA,ml]at F3;have F3:=ab F3;have YT:=ab (YS.o.jZ K8.o);have Yg:=ab (Yf.o.kept K8.o (fun h=>h));have XP:=ab (J7.o.kept K8.o (fun h=>h));have hs8:=K8.o.size;have lD:=ab abw;have jd:=ab abx;clear PS ak BA ml abw abx YS Yo R_ Yf zy J7;go_simp;refine(F3.o).mono ?_;rintro e w9 ⟨rfl,k9,hc9⟩;dsimp only;refine jy ?_;have DM:=ab ((YT.o.one k9 Kh.o FQ.2.2 (by omega)).later (MP:=i') (by omega));have Oe:=ab hc9;have Yh:=ab (Yg.o.kept k9 (by omega));have afn:=k9.cell (p:=⟨oY,0,none⟩) (by show oY<_;omega) (by show¬oY=cE;omega);have BX:=XP.o.kept k9 (by omega);have x0:w9.cell? ⟨oY,0,none⟩=some (.int .i64 (g.x.aY i)):=BX.cell 0;have x1:w9.cell? ⟨oY,1,none⟩=some (.int .i64 (g.x.aY j)):=BX.cell 1;have x2:w9.cell? ⟨oY,2,none⟩=some (.slice (some ⟨gb,0,none⟩) (2*G2) (2*G2)):=BX.cell 2;have x3:w9.cell? ⟨oY,3,none⟩=some (.string (g.x.s.extract (bd g.x.s i) (bd g.x.s j))):=BX.cell 3;have hs9:=k9.size;clear afn BX k9 hc9 F3 YT Yg XP
     cases rb with
     |false=>
      have ax:Hid (xO w2 w9 g w2.heap.size cE co cs ty wf T R (2*G2) i' (g.x.aY j) (.slice ao l.length cv) l):=⟨hi'.2.1,DM.o,Oe.o,by rw[<-jd.o rfl];exact Il.o,by omega⟩;clear DM Oe lD jd Il;go_wp2_with fail;go_roundg (g.x.n+1-i')
      case measure=>omega
      case rel=>exact⟨i',g.x.aY j,l,rfl,ax⟩
     |true=>
      have Qi:l.length<=10000000:=by have:=Rw g.x.s;unfold CX.n at dR;omega
      have fW:=ab DM.o.cO.row;go_wp2_with (at_builtin;refine Ap _ rfl _ _ 24 rfl w2.heap.size 46 ie _ 4 56 underlying24 oz Jq kV FP rfl (by decide) _ _ _ rfl (fW.o.alloc _) ⟨w9.heap.size,0,none⟩ 1 1 (zT g.x (2*G2) ⟨i,j,jH⟩ gb) rfl rfl ?c1 ?c2 ?c3 ?c4 ?c5 ?_)
      case c1=>
       intro q u hq;simpa[zT]using hq
      case c2=>
       intro u hu;unfold zT at hu;simp at hu;rcases hu with rfl|rfl|rfl|rfl<;>rfl
      case c3=>unfold maxLen;omega
      case c4=>omega
      case c5=>omega
      intro v' Hx bH b_ dS cB;obtain⟨jg,c',rfl⟩:=cK bH
      have ax:Hid (xO w2 Hx g w2.heap.size cE co cs ty wf T R (2*G2) i' (g.x.aY j) (.slice jg (l.length+1) c') (l++[(⟨i,j,jH⟩,gb)])):=by
       obtain⟨hp,kp⟩:=DM.o.push (p:=(⟨i,j,jH⟩,gb)) Oa.o rfl ((aa.refl af w9).alloc _) ⟨by show w2.heap.size<=gb;omega,Yh.o⟩ bH b_;have hr:=Il.o;rw[lD.o (by first|rfl|trivial)]at hr;refine⟨hi'.2.1,hp,Oe.o.kept kp (by omega),⟨?_,hr.2⟩,by simp;omega⟩;rw[<-hr.1];simp
      clear bH b_ dS cB DM Oe lD jd Il fW Yh;go_wp2_with fail;go_roundg (g.x.n+1-i')
      case measure=>omega
      case rel=>exact⟨i',g.x.aY j,l++[(⟨i,j,jH⟩,gb)],rfl,ax⟩
  ·have ai6:i=g.x.n+1:=by have:=HI.o.xn;omega
   have hfe:g.x.fr i=g.x.aB+((g.x.s.size+1:Nat):Int):=by unfold CX.fr;rw[T8 (by unfold CX.n at ai6;omega)]
   rw[hfe]at cC;have hle:¬g.x.aB+((g.x.s.size+1:Nat):Int)<=g.x.aB+(g.x.s.size:Int):=by omega
   have ax:Hid (nV wr w.heap.size (.slice ao l.length cv) g.x (2*G2) l/\l.map (·.1)=R.1/\aq wr cE (om cs co (g.x.fr R.2.1) R.2.2) ty/\aa (fun i=>i=cE) w wr):=by
    have hr:=HI.o.rest;rw[Ly (by omega),C8]at hr;have he:=HI.o.pt.cO;refine⟨⟨CN he.row (by omega),fun p hp=>⟨by have:=(he.iS p hp).1;omega,(he.iS p hp).2⟩⟩,hr.1,by rw[<-hr.2];exact HI.o.wO,(K2.o.mono (S':=fun i=>i=cE) (fun _ h=>h.elim)).bZ HI.o.pt.kept (fun i hi e=>by omega)⟩
   clear HI uG jP;go_wp2_with fail;go_big_quiet (fail);go_wp2_with fail;go_ret;exact⟨_,l,rfl,ax.o.1.kept ((aa.refl af wr).drewN nq) (fun _ _ h=>h),ax.o.2.1,ax.o.2.2.1,ax.o.2.2.2.drewN nq⟩
theorem alr(w:World):Calls prog 41 #[] w fun e w'=>e=.returned (.agg #[.int .i64 0,.int .i64 (-1)])/\aa af w w':=by
 go_in
 go_wp2_with fail
 exact Bi (v:=.agg #[.int .i64 0,.int .i64 (-1)]) (by simp[results,results41,go_sem]) rfl ⟨rfl,(aa.refl af w).alloc _⟩
theorem ahA(mq:mJ T (aF s).length):(eP T (aO s).n (aO s).aY (aO s).op 0 (-1)).1=sH T (aF s).length 0 none:=by
 have hb:∀i,(aO s).aY i=(bd s i:Int):=fun i=>by unfold CX.aY aO;simp
 exact ahz (b:=(aO s).aY) (fun i j hi hj h=>Z1 (x:=aO s) hi hj h) (fun i=>by rw[hb];omega) _ 0 none (fun p hp=>by cases hp) mq
def aai(rs ps:List Int):RG:={b:=0,ao:=none,br:=0,cr:=0,bp:=0,cp:=0,bf:=0,bn:=0,rs:=rs,ps:=ps}
def RG.mQ(g:RG):RG:=aai g.rs g.ps
theorem adC(g:RG):∀m,mD g m=mD g.mQ m
 |0=>rfl
 |m+1=>by
  funext st
  show(if ay g st= -1\/aG pU (ay g st)=true then st else mD g m (fU g st))=_
  rw[adC g m];rfl
theorem adF(g:RG)(first:Nat):∀m,lA g first m=lA g.mQ first m
 |0=>rfl
 |m+1=>by
  funext st
  show(if st.next<first+8/\aG oH (ay g st)=true then lA g first m {st with next:=st.next+1}else st)=_
  rw[adF g first m];rfl
theorem amh(g:RG):rY g=rY g.mQ:=by
 funext st
 unfold rY;rw[adC];rfl
theorem amq(g:RG):pz g=pz g.mQ:=by
 funext st
 unfold pz;rw[adF];rfl
theorem adx(g:RG):iu g=iu g.mQ:=by
 funext st
 unfold iu;rw[amq];rfl
theorem ads(g:RG)(aE:RS->RS×PT):dq g aE=dq g.mQ aE:=by
 funext st
 unfold dq vU;rw[adx,amh];rfl
theorem adQ(g:RG)(aE:RS->RS×PT):∀m,gS g aE m=gS g.mQ aE m
 |0=>rfl
 |m+1=>by
  funext st aA
  show(if ay g st= -1\/aG oG (ay g st)=true then(st,aA)else gS g aE m (gJ g (dq g aE st).2 (dq g aE st).1).1 (aA++[(gJ g (dq g aE st).2 (dq g aE st).1).2]))=_
  rw[adQ g aE m,ads];rfl
theorem Rj(g:RG)(aE:RS->RS×PT):dK g aE=dK g.mQ aE:=by
 funext st
 unfold dK;rw[adQ];rfl
theorem adp(g:RG)(aE:RS->RS×PT):∀m,gi g aE m=gi g.mQ aE m
 |0=>rfl
 |m+1=>by
  funext st aA
  show(if aG tf (ay g st)then gi g aE m (dK g aE {st with next:=st.next+1}).1 (aA++[(dK g aE {st with next:=st.next+1}).2])else(st,aA))=_
  rw[adp g aE m,Rj];rfl
theorem WK(g:RG):∀k,aQ g k=aQ g.mQ k
 |0=>rfl
 |k+1=>by
  funext st
  show((gi g (aQ g k) (g.rs.length+1) (dK g (aQ g k) st).1 [(dK g (aQ g k) st).2]).1,PT.node 3 (gi g (aQ g k) (g.rs.length+1) (dK g (aQ g k) st).1 [(dK g (aQ g k) st).2]).2 0 0)=_
  rw[WK g k,adp,Rj];rfl
theorem Z_(g:RG):∀m,rp g m=rp g.mQ m
 |0=>rfl
 |m+1=>by
  funext st aA
  show(if ay g st= -1\/aG pU (ay g st)=true then aA else rp g m (fU g st) (aA++iy g st))=_
  rw[Z_ g m];rfl
theorem ags(g:RG)(bU:Bool->RS->CT):jG g bU=jG g.mQ bU:=by
 funext fo st
 unfold jG sC Ln;rw[adx,Z_];rfl
theorem aab(g:RG)(aE:RS->RS×PT)(bU:Bool->RS->CT)(fo:Bool):∀m,km g aE bU fo m=km g.mQ aE bU fo m
 |0=>rfl
 |m+1=>by
  funext st aA
  show(if ay g st= -1\/aG oG (ay g st)=true then aA else km g aE bU fo m (gJ g (dq g aE st).2 (dq g aE st).1).1 (aA++[mh g (jG g bU fo st) (dq g aE st).1]))=_
  rw[aab g aE bU fo m,ads,ags];rfl
theorem aaa(g:RG)(aE:RS->RS×PT)(bU:Bool->RS->CT):lJ g aE bU=lJ g.mQ aE bU:=by
 funext fo st
 unfold lJ;rw[aab];rfl
theorem Z7(g:RG)(aE:RS->RS×PT)(bU:Bool->RS->CT)(fo:Bool):∀m,jU g aE bU fo m=jU g.mQ aE bU fo m
 |0=>rfl
 |m+1=>by
  funext st aA
  show(if aG tf (ay g st)then jU g aE bU fo m (dK g aE {st with next:=st.next+1}).1 (aA++[lJ g aE bU fo {st with next:=st.next+1}])else aA)=_
  rw[Z7 g aE bU fo m,Rj,aaa];rfl
theorem Z6(g:RG):∀k,dh g k=dh g.mQ k
 |0=>rfl
 |k+1=>by
  funext fo st
  show CT.node 4 [] false false 0 0 0 0 false (jU g (aQ g k) (dh g k) fo (g.rs.length+1) (dK g (aQ g k) st).1 [lJ g (aQ g k) (dh g k) fo st])=_
  rw[Z6 g k,WK g k,Z7,Rj,aaa];rfl
theorem amD(g:RG)(st:RS):dY g st=dY g.mQ st:=by
 unfold dY;rw[WK];rfl
theorem agu(g:RG)(st:RS):pL g st=pL g.mQ st:=by
 unfold pL;rw[Z6];rfl
def mF(p:ByteArray):RG:=aai ((fN p (p.size+1) 0).map (·.2)) ((fN p (p.size+1) 0).map (fun q=>(q.1:Int))++[(p.size:Int)])
theorem aha{g:RG}(h1:g.rs=(fN p (p.size+1) 0).map (·.2))(h2:g.ps=(fN p (p.size+1) 0).map (fun q=>(q.1:Int))++[(p.size:Int)]):g.mQ=mF p:=by unfold RG.mQ mF;rw[h1,h2]
theorem apo{g:RG}(h1:g.rs=(fN p (p.size+1) 0).map (·.2))(h2:g.ps=(fN p (p.size+1) 0).map (fun q=>(q.1:Int))++[(p.size:Int)]):(∀st,dY g st=dY (mF p) st)/\(∀st,pL g st=pL (mF p) st)/\lK g p=lK (mF p) p:=by
 have e:=aha h1 h2;have a1:∀st,dY g st=dY (mF p) st:=fun st=>by rw[amD,e]
 refine⟨a1,fun st=>by rw[agu,e],?_⟩;unfold lK;rw[a1]
theorem anH(p:ByteArray):uU (mF p):=fun r hr=>by
 have hr:r∈ (fN p (p.size+1) 0).map (·.2):=hr;obtain⟨q,hq,rfl⟩:=Bg.1 hr;exact Xg p _ _ q hq
def nb(p:ByteArray):CT:=pL (mF p) (di p)
def lB(p:ByteArray):Nat:=(dY (mF p) (di p)).1.aR
def qP(p:ByteArray):Int:=if 300<p.size then 1 else(pick (lK (mF p) p)).1
theorem adX(hs:p.size<=300)(h:qP p=0):(nb p).ok/\(dY (mF p) (di p)).2.size<=1000/\(nb p).gN (lB p:Int)/\(nb p).lC:=by
 unfold qP at h;rw[if_neg (by omega)]at h;obtain⟨h1,h2⟩:=ahR h;exact⟨apq _ _ h1,h2,air _ _,apv (anH p) _ h1⟩
theorem oU.ma(h:oU w lo hi base v ms)(az:ms≠ [])(hle:hi<=w.heap.size)(hT:jf w):∃mb c vs,v=.slice (some ⟨mb,0,none⟩) ms.length c/\jt w lo hi mb c vs ms:=by
 obtain⟨vs,h1,h2,h3⟩:=h;obtain⟨hx,gO⟩:=h1;rcases gO with⟨_,h0⟩|⟨g,cap,aM,rfl,a1,a2,a3,a4,a5,a6⟩
 ·exact absurd (Ax.1 h0) az
 ·refine⟨g,cap,vs,rfl,⟨⟨h2,fun i hi' j hj=>?_,(Am.1 a2).1,fun i b1 b2=>⟨(h3 i b1 b2).k,(h3 i b1 b2).nx,(h3 i b1 b2).ot⟩⟩,h3,hle,hT⟩⟩;have hf:=Pj vs i (by omega) j hj;rw[<-hf,<-a6,Aw (by omega)];simp only[World.cell?,a2];simp
def LD(p s:ByteArray):List Ev:=sH (CU (nb p) (lB p) (fP s)) (aF s).length 0 none
open Go.ChangeShapes Go.WideShapes Go.ChangeAt
theorem ahU:Lib.firstData=Rows.laid_unicode_utf8_first:=by kernel_rfl
theorem afH:(Lib.acceptData:DataW Unit)=Rows.laid_unicode_utf8_acceptRanges:=by kernel_rfl
theorem aoH(hL:laidMetH prog Rows.cutsUptoRow.laid W):jf W:=by
 have hM:laidMet prog Rows.cutsUptoRow.laid W:=by
  rw[<-MakeChecks.laidMetH_plain _ _ _ (by kernel_rfl)];exact hL
 have h3:=Lib.laidMet.reads hM (n:= "unicode/utf8.first") (d:=Rows.laid_unicode_utf8_first) (.tail _ (.tail _ (.head _)));have h4:=Lib.laidMet.reads hM (n:= "unicode/utf8.acceptRanges") (d:=Rows.laid_unicode_utf8_acceptRanges) (.head _);rw[<-ahU]at h3;rw[<-afH]at h4;exact utf8Tabs_of_reads (ρ:=Tryz.acz) {Tryz.V_ with} ⟨by kernel_rfl,by kernel_rfl,by kernel_rfl,by kernel_rfl,by kernel_rfl,by kernel_rfl,by kernel_rfl⟩ h3 h4
theorem au:ownKnob prog.godebug=none:=by kernel_rfl
theorem aoU(c n:Int)(hc:0<=c)(hn:0<n):0<=Int.tmod c n/\Int.tmod c n<n:=by
 rw[Int.tmod_eq_emod_of_nonneg hc];exact⟨Int.emod_nonneg _ (by omega),Int.emod_lt_of_pos _ hn⟩
theorem amV(c:Int)(n:Nat)(w:World)(hn:0<n)(jW:n<=1000)(h1: -9223372036854775808<=c)(h2:c<=9223372036854775807):Calls prog 19 #[.int .i64 c,.int .i64 (n:Int)] w fun e w'=>(∃k:Nat,e=.returned (.int .i64 (k:Int))/\k<n)/\w'=w:=by
 have hz:((n:Int)==0)=false:=by simp;omega
 by_cases h0:c<0
 ·go_enter func19,ntmps19
  go_wp2_with fail
  go_ret
  have h:=aoU (-(c+1)) n (by omega) (by omega);refine⟨⟨((-(c+1)).tmod n).toNat,?_,by omega⟩,rfl⟩;have e:(((-(c+1)).tmod n).toNat:Int)= -((c+1).tmod n):=by rw[<-Int.neg_tmod];omega
  rw[e];rfl
 ·have hc:0<=c:=by omega
  go_enter func19,ntmps19
  go_wp2_with fail
  go_ret
  have h1:=Int.emod_nonneg c (show(n:Int)≠0 by omega);have h2:=Int.emod_lt_of_pos c (show(0:Int)<n by omega);refine⟨⟨(c % n).toNat,?_,by omega⟩,rfl⟩;have e:((c % n).toNat:Int)=c % n:=by omega
  rw[e];rfl
def Iw(w:World)(v:Value)(zs:List Int):Prop:=(v=.slice none 0 0/\zs=[])\/∃(a:Addr) (c:Nat),v=.slice (some a) zs.length c/\zs.length<=c/\(∀i,i<zs.length->w.cell? (a.add i)=some (.int .i64 (zs.getD i 0)))/\∀z∈zs,-9223372036854775808<=z/\z<=9223372036854775807
theorem aeG(s:ByteArray)(q:Nat)(h:q<s.size)(wx:World):(Instr.slice 9 (.string s) (some (.int .i64 (q:Int))) (some (.int .i64 ((q:Int)+1))) none).run prog wx=.ok (.string (s.extract q (q+1))) wx:=by
 have:=run_slice_string (P:=prog) wx 9 s .i64 .i64 (q:Int) ((q:Int)+1) underlying9 (by omega) (by omega) (by omega);rw[this];congr 3<;>omega
theorem ak3{t:ByteArray}{b:UInt8}(h:b∈ (s++t.extract i j).data.toList):b∈s.data.toList\/b∈t.data.toList:=by
 rw[Cy,Do,Al]at h;rcases h with h|h
 ·exact Or.inl h
 ·rw[Eh,Array.toList_extract]at h;exact Or.inr (Dz (Cf h))
theorem acC{zs:List Int}{of:ByteArray}(hR:Iw w v zs)(hz:zs.length<=10000000)(ho:0<of.size)(yB:of.size<=1000):Calls prog 12 #[v,.string of] w fun e w'=>(∃s:ByteArray,e=.returned (.string s)/\s.size=zs.length/\∀b∈s.data.toList,b∈of.data.toList)/\w'=w:=by
 rcases hR with⟨rfl,rfl⟩|⟨a,c,rfl,_,h3,h4⟩
 ·go_enter func12,ntmps12
  go_wp2_with fail
  go_loopg [5,6] 0 (fun kk s i wr=>kk=0/\s=.string ⟨#[]⟩/\i=.int .i64 0/\wr=w)
  case atStart=>exact⟨rfl,rfl,rfl,rfl⟩
  case round=>
   obtain⟨rfl,rfl,rfl,rfl⟩:=hrel;go_wp2_with fail;go_ret;exact⟨⟨⟨#[]⟩,rfl,rfl,fun b h=>by simp at h⟩,rfl⟩
 ·have H3:=ab h3;have H4:=ab h4;obtain⟨n,HN⟩:∃n,Hid (zs.length=n):=⟨_,(rfl:_=_)⟩
  rw[HN.o]at hz⊢;clear h3 h4;go_enter func12,ntmps12;go_wp2_with fail;go_loopg [5,6] n (fun kk sv i wr=>∃(s:ByteArray) (k:Nat),sv=.string s/\i=.int .i64 k/\k<=n/\kk=n-k/\s.size=k/\Hid (∀b∈s.data.toList,b∈of.data.toList)/\wr=w)
  case atStart=>exact⟨⟨#[]⟩,0,rfl,rfl,Ao _,rfl,rfl,fun b h=>by simp at h,rfl⟩
  case round=>
   obtain⟨s,k,rfl,rfl,hk,rfl,aP,HM,rfl⟩:=hrel;by_cases aw:k<n
   ·have iX:k<zs.length:=by rw[HN.o];exact aw
    have d1:=H3.o k iX;have hb:=H4.o (zs.getD k 0) (by simp[Af,iX]);generalize zs.getD k 0=z at*;have F:=ab (amV z of.size wr ho yB hb.1 hb.2);go_wp2_with fail;refine(F.o).mono ?_;rintro e w' ⟨⟨q,rfl,hq⟩,rfl⟩;clear F;have Qx:(q:Int)+1<=(of.size:Int):=(by omega);have ib:=(fun wx=>aeG of q hq wx);go_wp2_with fail;go_roundg (n-(k+1))
    case measure=>omega
    case rel=>
     refine⟨_,k+1,rfl,by go_num,by omega,rfl,?_,fun b hb=>?_,rfl⟩
     ·rw[Du,ByteArray.size_extract];omega
     ·rcases ak3 hb with h|h
      ·exact HM.o b h
      ·exact h
   ·have rH:k=n:=(by omega);subst rH;go_wp2_with fail;go_ret;exact⟨⟨s,rfl,aP,HM.o⟩,rfl⟩
