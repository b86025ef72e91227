/- Package whole's  -/
import Derived.Test.YtpdnofhackjfdaaGreatDoorP27
set_option linter.all false
set_option maxRecDepth 100000
set_option maxHeartbeats 8000000
namespace Go.Proofs.YtpdnofhackjfdaaGreatDoor
open Go.Proofs.Tryz
open Go.RowKit Go.Maps
variable {cs:Array Value} {p s:ByteArray} {x:CX} {told:Int} {l:List (Ev×Nat)} {R:List Ev×Nat×Int} {ms:List MS} {wf:List Nat} {vs:List Sv} {G2 N2 base c cE co hi i io NQ j lo mb u0:Nat} {T:Nat->iT} {K:Nat->Prop} {g:OG} {ty:TypeId} {v v':Value} {W w w' w7 wr:World}
def BK(s:ByteArray)(i:Nat):Nat:=if i<=(aJ s).length then bd s i else s.size+1
theorem Vj(h:i<=(aJ s).length):BK s i=bd s i:=if_pos h
theorem Vi(h:(aJ s).length<i):BK s i=s.size+1:=if_neg (by omega)
theorem abK(h:i<=(aJ s).length):bd s i<BK s (i+1)/\BK s (i+1)<=bd s i+4:=by
 by_cases hl:i<(aJ s).length
 ·rw[Vj (by omega)];exact pY hl
 ·rw[Vi (by omega)];have:=nI (s:=s) (i:=i) (by omega);omega
theorem afY(w:World)(s:ByteArray)(i:Nat)(hi:i<=(aJ s).length)(hs:s.size<=10000000)(hT:iM w):Calls prog 62 #[.string s,GW (bd s i:Int)] w fun e w'=>e=.returned (GW ((BK s (i+1):Int)-(bd s i:Int)))/\aa ai w w':=by
 by_cases hl:i<(aJ s).length
 ·rw[Vj (by omega)];exact afX w s i hl hs hT
 ·refine(afZ s (bd s i) w (i_ s i) (by omega) hT).mono ?_;rintro e w' ⟨rfl,hk⟩;refine⟨?_,hk⟩;have hb:=nI (s:=s) (i:=i) (by omega);rw[Vi (by omega),hb]
  have e0:(s.extract s.size s.size)=ByteArray.empty:=by
   apply Dj
   simp
  rw[e0];have e1:(Lib.decodeGo ByteArray.empty).2=0:=by kernel_rfl
  rw[e1];congr 2;omega
def vM(s:ByteArray)(N2:Nat)(e:Ev)(gb:Nat):List Value:=[GW (bd s e.a:Int),GW (bd s e.b:Int),.slice (some (GB gb 0)) N2 N2,.string (s.extract (bd s e.a) (bd s e.b))]
def ug(s:ByteArray)(N2:Nat)(l:List (Ev×Nat)):List Value:=l.flatMap fun p=>vM s N2 p.1 p.2
structure rH(w:World)(base:Nat)(v:Value)(s:ByteArray)(N2:Nat)(l:List (Ev×Nat)):Prop where
 row:w.ownsRow base 46 4 v l.length (ug s N2 l)
 fA:∀p∈l,base<=p.2/\au w p.2 (cQ p.1.gs).toArray 3
theorem rH.kept(h:rH w base v s N2 l)(k:aa K w w')(hK:∀i,base<=i->¬K i):rH w' base v s N2 l:=
 ⟨bU h.row k (fun b hb=>hK b (dw h.row hb).1),fun p hp=>⟨(h.fA p hp).1,(h.fA p hp).2.kept k (hK _ (h.fA p hp).1)⟩⟩
def xA(x:CX)(N2:Nat)(e:Ev)(gb:Nat):List Value:=[GW (x.aZ e.a),GW (x.aZ e.b),.slice (some (GB gb 0)) N2 N2,.string (x.s.extract (bd x.s e.a) (bd x.s e.b))]
def yS(x:CX)(N2:Nat)(l:List (Ev×Nat)):List Value:=l.flatMap fun p=>xA x N2 p.1 p.2
structure mR(w:World)(base:Nat)(v:Value)(x:CX)(N2:Nat)(l:List (Ev×Nat)):Prop where
 row:w.ownsRow base 46 4 v l.length (yS x N2 l)
 fA:∀p∈l,base<=p.2/\au w p.2 (cQ p.1.gs).toArray 3
theorem mR.nil(w:World)(base:Nat)(x:CX)(N2:Nat):mR w base (.slice none 0 0) x N2 []:=⟨A8 _ _ _ _,fun p h=>by cases h⟩
theorem mR.kept(h:mR w base v x N2 l)(k:aa K w w')(hK:∀i,base<=i->¬K i):mR w' base v x N2 l:=
 ⟨bU h.row k (fun b hb=>hK b (dw h.row hb).1),fun p hp=>⟨(h.fA p hp).1,(h.fA p hp).2.kept k (hK _ (h.fA p hp).1)⟩⟩
theorem aiq(x:CX)(N2:Nat)(l:List (Ev×Nat))(p:Ev×Nat):yS x N2 (l++[p])=yS x N2 l++xA x N2 p.1 p.2:=by unfold yS;simp
theorem mR.Sb(h:mR w base v x N2 l){b:Nat}(hb:au w b cs 3):v.ownBlock≠some b:=fun e=>by
 rcases h.row.2 with⟨rfl,_⟩|⟨g,cap,aO,rfl,a1,a2,r⟩
 ·simp[Value.ownBlock]at e
 ·simp[Value.ownBlock]at e
  subst e;unfold au at hb;rw[a2]at hb;simp at hb
theorem mR.push(h:mR w base v x N2 l)(k0:aa ai w W){p:Ev×Nat}(hp:base<=p.2/\au w p.2 (cQ p.1.gs).toArray 3)
 (bC:w7.ownsRow base 46 4 v' (l.length+1) (yS x N2 l++xA x N2 p.1 p.2))(hg:W.grownBy w7 v.ownBlock):mR w7 base v' x N2 (l++[p])/\aa (fun i=>base<=i) w w7:=by
 have k7:aa (fun j=>v.ownBlock=some j) w w7:=(k0.mono (fun i hx=>hx.elim)).eP hg (fun j hj=>Or.inl hj);refine⟨⟨by rw[Aj,aiq];exact bC,fun q hq=>?_⟩,k7.mono (fun i hi=>(dw h.row hi).1)⟩;rcases Ap.1 hq with hq|hq
 ·exact⟨(h.fA q hq).1,(h.fA q hq).2.kept k7 (h.Sb (h.fA q hq).2)⟩
 ·simp at hq
  subst hq;exact⟨hp.1,hp.2.kept k7 (h.Sb hp.2)⟩
def CX.fr(x:CX)(i:Nat):Int:=x.aE+(BK x.s i:Int)
theorem CX.Jq(h:i<=x.n):x.fr i=x.aZ i:=by unfold CX.fr CX.aZ;rw[Vj h]
structure pU(w wr:World)(g:OG)(base cE:Nat)(wf:List Nat)(N2 io:Nat)(v:Value)(l:List (Ev×Nat)):Prop where
 o:∃aq wd,pd wr g aq wf wd/\g.aH.getD aq 0<=io
 c_:mR wr base v g.x N2 l
 kept:aa (fun i=>i=g.ob\/i=g.WB\/i=cE) w wr
structure yt(w wr:World)(g:OG)(base cE co:Nat)(cs:Array Value)(ty:TypeId)(wf:List Nat)(T:Nat->iT)(R:List Ev×Nat×Int)(N2:Nat)(i:Nat)(told:Int)(v:Value)(l:List (Ev×Nat)):Prop where
 xT:i<=g.x.n+1
 pt:pU w wr g base cE wf N2 i v l
 xy:au wr cE (nN cs co (g.x.fr i) told) ty
 rest:l.map (·.1)++(e_ T g.x.n g.x.aZ g.x.op i told).1=R.1/\(e_ T g.x.n g.x.aZ g.x.op i told).2=R.2
 bN:l.length<=i
theorem Tryz.Xh:(prog.info? 46).map (fun i=>(i.zero,i.size,i.bytes))=some (some (.agg #[GW 0,GW 0,.slice none 0 0,.string ⟨#[]⟩]),4,56):=by kernel_rfl
def Zc(pj b4:Nat)(x y:Int)(s:ByteArray)(bg:Int)(W:World):Prop:=(W.cell? (GB pj 0)=some (GW x)/\W.cell? (GB pj 1)=some (GW y))/\W.cell? (GB b4 0)=some (.string s)/\W.cell? (GB b4 1)=some (GW bg)
def Zb(cE co b4:Nat)(f:Int)(s:ByteArray)(W:World):Prop:=W.cell? (GB cE co)=some (GW f)/\W.cell? (GB b4 0)=some (.string s)
theorem iB.one{aq B:Nat}{wr:List Nat}(h:iB w g aq wf wr)(k:aa (fun i=>i=B) w w')(h1:B≠g.ob/\B≠g.mb/\¬(g.lo<=B/\B<g.hi))(h2:B≠0/\B≠1)(h3:B≠g.cR/\B≠g.fh/\B≠g.rh)(h4:B≠g.FB/\B≠g.WB):iB w' g aq wf wr where
 rk:=h.rk.kept k (fun e=>h1.1 e.symm) (fun e=>h1.2.1 e.symm) (fun i a b e=>h1.2.2 (by subst e;exact⟨a,b⟩)) (fun e=>h2.1 e.symm) (fun e=>h2.2 e.symm)
 bg i hi:=(k.cell (p:=(GB g.cR i)) h.lt.1 (fun e=>h3.1 e.symm)).trans (h.bg i hi)
 fh i hi:=(k.cell (p:=(GB g.fh i)) h.lt.2.1 (fun e=>h3.2.1 e.symm)).trans (h.fh i hi)
 rh i hi:=(k.cell (p:=(GB g.rh i)) h.lt.2.2 (fun e=>h3.2.2 e.symm)).trans (h.rh i hi)
 lt:=by have:=k.size;have:=h.lt;omega
 bf:=h.bf.kept k (fun e=>h4.1 e.symm)
 bw:=h.bw.kept k (fun e=>h4.2 e.symm)
 fl:=h.fl
 wl:=h.wl
theorem pU.iR(h:pU w wr g base cE wf N2 io v l)(k:aa ai wr w'):pU w w' g base cE wf N2 io v l:=by
 obtain⟨aq,wd,o1,o2⟩:=h.o;exact⟨⟨aq,wd,o1.kept k,o2⟩,h.c_.kept k (fun _ _ h=>h),h.kept.trans (k.mono (fun _ h=>h.elim))⟩
theorem yt.iR(h:yt w wr g base cE co cs ty wf T R N2 i told v l)(k:aa ai wr w'):yt w w' g base cE co cs ty wf T R N2 i told v l:=
 ⟨h.xT,h.pt.iR k,h.xy.kept k (fun h=>h),h.rest,h.bN⟩
theorem pU.XX(h:pU w wr g base cE wf N2 io v l)(k:aa (fun i=>i=g.ob\/i=g.WB) wr w')(hb:g.below base)(ho:∃aq wd,pd w' g aq wf wd/\g.aH.getD aq 0<=NQ):pU w w' g base cE wf N2 NQ v l:=by
 refine⟨ho,h.c_.kept k (fun i hi e=>?_),h.kept.trans (k.mono (fun i e=>by rcases e with e|e;exact Or.inl e;exact Or.inr (Or.inl e)))⟩;unfold OG.below at hb;omega
theorem pU.one(h:pU w wr g base cE wf N2 io v l)(k:aa (fun i=>i=cE) wr w')(JI:(cE≠g.ob/\cE≠g.mb/\¬(g.lo<=cE/\cE<g.hi))/\(cE≠g.cR/\cE≠g.fh/\cE≠g.rh)/\cE≠g.FB/\cE≠g.WB)(zb:cE≠0/\cE≠1)(GU:cE<base):pU w w' g base cE wf N2 io v l:=by
 obtain⟨aq,wd,o1,o2⟩:=h.o;exact⟨⟨aq,wd,⟨o1.at_.one k JI.1 zb JI.2.1 JI.2.2,o1.lt,o1.Mu,o1.rows⟩,o2⟩,h.c_.kept k (fun i hi e=>by omega),h.kept.trans (k.mono (fun i e=>Or.inr (Or.inr e)))⟩
theorem pU.later(h:pU w wr g base cE wf N2 io v l)(hi:io<=NQ):pU w wr g base cE wf N2 NQ v l:=by
 obtain⟨aq,wd,o1,o2⟩:=h.o;exact⟨⟨aq,wd,o1,by omega⟩,h.c_,h.kept⟩
theorem pU.push(h:pU w wr g base cE wf N2 io v l)(hb:g.below base)(hw:base=w.heap.size)(k0:aa ai wr W){p:Ev×Nat}(hp:base<=p.2/\au wr p.2 (cQ p.1.gs).toArray 3)
 (bC:w7.ownsRow base 46 4 v' (l.length+1) (yS g.x N2 l++xA g.x N2 p.1 p.2))(hg:W.grownBy w7 v.ownBlock):pU w w7 g base cE wf N2 io v' (l++[p])/\aa (fun i=>base<=i) wr w7:=by
 obtain⟨e1,k1⟩:=h.c_.push k0 hp bC hg;obtain⟨aq,wd,o1,o2⟩:=h.o;exact⟨⟨⟨aq,wd,o1.xB hb k1,o2⟩,e1,h.kept.b_ k1 (fun i hi e=>by omega)⟩,k1⟩
theorem aaM(hi:i<=x.n)(hj:j<=x.n)(h:x.aZ i=x.aZ j):i=j:=by
 unfold CX.aZ at h;exact Qm hi hj (by omega)
theorem anf(kC:oc T x.n){jL:List Int}(hi:i<=x.n)(hj:j<=x.n)(cY:i<=j)(hT:T i=some (j,jL))(ho:(x.op&&decide (x.n<=j))=false){pQ:Int}(hw:x.aZ j+pQ=x.fr (j+1)):
 ∃(rb:Bool) (i':Nat),(!((x.aZ i==x.aZ j)&&(x.aZ j==told)))=rb/\(if x.aZ i=x.aZ j then x.aZ j+pQ else x.aZ j)=x.fr i'/\(i<i'/\i'<=x.n+1/\j<=i')/\(rb=true->e_ T x.n x.aZ x.op i told=(⟨i,j,jL⟩::(e_ T x.n x.aZ x.op i' (x.aZ j)).1,(e_ T x.n x.aZ x.op i' (x.aZ j)).2))/\(rb=false->e_ T x.n x.aZ x.op i told=e_ T x.n x.aZ x.op i' (x.aZ j)):=by
 have kx:=Jo (b:=x.aZ) (op:=x.op) (told:=told) kC hi hT ho;by_cases e:i=j
 ·subst e;rw[if_pos rfl]at kx;by_cases e2:told=x.aZ i
  ·rw[if_pos e2]at kx;exact⟨false,i+1,by simp[e2],by rw[if_pos rfl];exact hw,by omega,fun h=>(by cases h),fun _=>by rw[kx,e2]⟩
  ·rw[if_neg e2]at kx;exact⟨true,i+1,by simp;exact fun h=>e2 h.symm,by rw[if_pos rfl];exact hw,by omega,fun _=>kx,fun h=>(by cases h)⟩
 ·rw[if_neg e]at kx;have aB:x.aZ i≠x.aZ j:=fun h=>e (aaM hi hj h)
  have hb:(x.aZ i==x.aZ j)=false:=by simpa using aB
  refine⟨true,j,by rw[hb];rfl,by rw[if_neg aB,CX.Jq hj],by omega,fun _=>kx,fun h=>(by cases h)⟩
theorem Zd{i0:Nat}{Kz:Int}(hM:jj w lo hi mb c vs ms)(ia:fg ms)(hq:iJ (G2:Int) ms)(dy:ms.length<=4001)(hs:x.s.size<=10000000)(JE:0<=x.aE/\x.aE<=1000000000000)(so:u0<ms.length)(Jv:G2<=100000)
 (hT:∀i,i<=x.n->dd ms x (u0:Int) i (List.replicate (2*G2) (-1))=T i)(kC:oc T x.n)(hc:au w cE (nN cs co (x.fr i0) Kz) ty)(CI:co+1<cs.size)(cW:i0<=x.n+1)(hR:e_ T x.n x.aZ x.op i0 Kz=R)(GU:cE≠mb/\¬(lo<=cE/\cE<hi)/\cE≠0/\cE≠1):
 Calls prog 42 #[.agg #[.slice (some (GB mb 0)) ms.length c,GW (u0:Int),GW (G2:Int)],.agg #[.string x.s,GW x.aE,.int .i32 x.ah,.int .i32 x.bh,.bool x.op],BT cE co] w fun e w'=>∃(v:Value) (l:List (Ev×Nat)),e=.returned v/\mR w' w.heap.size v x (2*G2) l/\l.map (·.1)=R.1/\au w' cE (nN cs co (x.fr R.2.1) R.2.2) ty/\aa (fun i=>i=cE) w w':=by
 have HM:=ab hM;have pV:=ab ia;have HQ:=ab hq;have HT:=ab hT;have oY:=ab kC;have HC:=ab hc;have HR0:=ab hR;have fC:=hc.lt;obtain⟨ie,qg,NM,lJ,JD⟩:=Bo Tryz.Xh;clear hM ia hq hT kC hc hR;go_in;go_wp2_with fail;have B3:Hid (au ((w.alloc (.cells #[.slice (some (GB mb 0)) ms.length c,GW (u0:Int),GW (G2:Int)] 73)).alloc (.cells #[.string x.s,GW x.aE,.int .i32 x.ah,.int .i32 x.bh,.bool x.op] 105)) w.heap.size #[.slice (some (GB mb 0)) ms.length c,GW (u0:Int),GW (G2:Int)] 73):=(au.new w _ _).alloc _
 have B4:Hid (au ((w.alloc (.cells #[.slice (some (GB mb 0)) ms.length c,GW (u0:Int),GW (G2:Int)] 73)).alloc (.cells #[.string x.s,GW x.aE,.int .i32 x.ah,.int .i32 x.bh,.bool x.op] 105)) (w.heap.size+1) #[.string x.s,GW x.aE,.int .i32 x.ah,.int .i32 x.bh,.bool x.op] 105):=by
  have:=au.new (w.alloc (.cells #[.slice (some (GB mb 0)) ms.length c,GW (u0:Int),GW (G2:Int)] 73)) #[.string x.s,GW x.aE,.int .i32 x.ah,.int .i32 x.bh,.bool x.op] 105;rw[fP]at this;exact this
 have K1:Hid (aa ai w ((w.alloc (.cells #[.slice (some (GB mb 0)) ms.length c,GW (u0:Int),GW (G2:Int)] 73)).alloc (.cells #[.string x.s,GW x.aE,.int .i32 x.ah,.int .i32 x.bh,.bool x.op] 105))):=((aa.refl ai w).alloc _).alloc _;have cZ:((w.alloc (.cells #[.slice (some (GB mb 0)) ms.length c,GW (u0:Int),GW (G2:Int)] 73)).alloc (.cells #[.string x.s,GW x.aE,.int .i32 x.ah,.int .i32 x.bh,.bool x.op] 105)).heap.size=w.heap.size+1+1:=by simp
 generalize((w.alloc (.cells #[.slice (some (GB mb 0)) ms.length c,GW (u0:Int),GW (G2:Int)] 73)).alloc (.cells #[.string x.s,GW x.aE,.int .i32 x.ah,.int .i32 x.bh,.bool x.op] 105))=w1 at*
 have F:=ab (adL (st:=(u0:Int)) (G:=(G2:Int)) (HM.o.kept K1.o) pV.o HQ.o dy hs JE);refine(F.o).mono ?_;rintro e w2 ⟨g,wf,wd,rfl,qT,Hd,hO,k2⟩
 have dD:Hid (yt w2 w2 g w2.heap.size cE co cs ty wf T R (2*G2) i0 Kz (.slice none 0 0) []):=by
  have hk:=K1.o.trans k2;have ex:g.x=x:=qT.2.1;refine⟨by rw[ex];exact cW,⟨⟨0,wd,hO,by rw[Hd.bg.zero];exact Al _⟩,mR.nil _ _ _ _,aa.refl _ _⟩,?_,?_,Al _⟩
  ·rw[ex];exact HC.o.kept hk (fun h=>h)
  ·rw[ex,HR0.o];exact⟨rfl,rfl⟩
 have mU:=ab qT;have nA:=ab Hd;have Pg:=ab hO.at_.below;have B32:=ab (B3.o.kept k2 (fun h=>h));have B42:=ab (B4.o.kept k2 (fun h=>h));have K2:=ab (K1.o.trans k2);have akn:=k2.size;have egs:g.x=x:=qT.2.1;have egm:g.ms=ms:=qT.1;have lS:Hid (g.st=(u0:Int)):=qT.2.2.1;have TY:Hid (g.G=(G2:Int)):=qT.2.2.2.1;have aqA:w.heap.size+1+1<=g.ob/\w.heap.size+1+1<=g.WB:=by rw[<-cZ];exact⟨qT.2.2.2.2.2.2.2.1,qT.2.2.2.2.2.2.2.2.1⟩
 have La:Hid ((cE≠g.ob/\cE≠g.mb/\¬(g.lo<=cE/\cE<g.hi))/\(cE≠g.cR/\cE≠g.fh/\cE≠g.rh)/\cE≠g.FB/\cE≠g.WB):=by
  obtain⟨e1,e2,e3,e4,e5,e6,e7,e8,e9,vK,sX,yP,Gs,Gt,Gu⟩:=qT;rw[e5,vK,sX];exact⟨⟨by omega,GU.1,GU.2.1⟩,⟨by omega,by omega,by omega⟩,by omega,by omega⟩
 clear qT Hd hO k2 F B3 B4;subst egs egm;go_wp2_with fail;go_loopg [7] (g.x.n+1-i0) (fun kk v wr=>∃(i:Nat) (told:Int) (l:List (Ev×Nat)),kk=g.x.n+1-i/\Hid (yt w2 wr g w2.heap.size cE co cs ty wf T R (2*G2) i told v l))
 case atStart=>exact⟨i0,Kz,[],rfl,dD⟩
 case round=>
  obtain⟨i,told,l,eE,HI⟩:=hrel;clear dD;have cC:wr.cell? (GB cE co)=some (GW (g.x.fr i)):=(HI.o.xy.cell co).trans (Qw CI _ _);have b4:=B42.o.kept HI.o.pt.kept (by show¬(w.heap.size+1=g.ob\/w.heap.size+1=g.WB\/w.heap.size+1=cE);omega);have b3:=B32.o.kept HI.o.pt.kept (by show¬(w.heap.size=g.ob\/w.heap.size=g.WB\/w.heap.size=cE);omega);have t0:wr.cell? ⟨w.heap.size+1,0,none⟩=some (.string g.x.s):=b4.cell 0;have t1:wr.cell? ⟨w.heap.size+1,1,none⟩=some (GW g.x.aE):=b4.cell 1;have m1:wr.cell? (GB w.heap.size 1)=some (GW (u0:Int)):=b3.cell 1;have sJ:=ab b3;have jU:=ab b4;clear b3 b4;obtain⟨ao,cv,hv⟩:=cw HI.o.pt.c_.row;subst hv;by_cases eD:i<=g.x.n
  ·have Q8:=i_ g.x.s i;rw[CX.Jq eD]at cC;have oC:g.x.aZ i=g.x.aE+(bd g.x.s i:Int):=rfl;have hle:g.x.aZ i<=g.x.aE+(g.x.s.size:Int):=(by omega);have oH:g.x.aZ i-g.x.aE=(bd g.x.s i:Int):=(by omega);have HBD:=ab oC;clear oC;go_wp2_with fail;go_big_quiet (fail);have ZQ:=ab (HI.o.iR ((aa.refl ai wr).drewN nq));have Zl:Hid (au (wr.drewN nq) w.heap.size #[.slice (some (GB mb 0)) g.ms.length c,GW (u0:Int),GW (G2:Int)] 73):=sJ.o;have Zn:Hid (au (wr.drewN nq) (w.heap.size+1) #[.string g.x.s,GW g.x.aE,.int .i32 g.x.ah,.int .i32 g.x.bh,.bool g.x.op] 105):=jU.o;have cCa:(wr.drewN nq).cell? (GB cE co)=some (GW (g.x.aZ i)):=cC;have t1a:(wr.drewN nq).cell? ⟨w.heap.size+1,1,none⟩=some (GW g.x.aE):=t1;have m1a:(wr.drewN nq).cell? (GB w.heap.size 1)=some (GW (u0:Int)):=m1;generalize wr.drewN nq=wa at*;clear HI sJ jU cC t0 t1 m1;go_wp2_with fail;go_big_quiet (fail);have tU:=ab (ZQ.o.iR ((aa.refl ai wa).drewN nq));have Zm:Hid (au (wa.drewN nq) w.heap.size #[.slice (some (GB mb 0)) g.ms.length c,GW (u0:Int),GW (G2:Int)] 73):=Zl.o;have Pf:Hid (au (wa.drewN nq) (w.heap.size+1) #[.string g.x.s,GW g.x.aE,.int .i32 g.x.ah,.int .i32 g.x.bh,.bool g.x.op] 105):=Zn.o;have m1b:(wa.drewN nq).cell? (GB w.heap.size 1)=some (GW (u0:Int)):=m1a;generalize wa.drewN nq=wb at*;clear ZQ Zl Zn cCa t1a m1a;obtain⟨aq,wd,hO,oC⟩:=tU.o.pt.o;have F:=US nA.o hO (u:=u0) so eD oC;have HR:=ab (HT.o i eD);have qC:=ab hO;have EB:=ab oC;clear hO oC
   cases JA:T i with
   |none=>
    rw[On pV.o g.x so eD (List.replicate (2*G2) (-1)),HR.o,JA]at F;simp only[Du]at F;have F:=ab F;have PD:=ab JA;clear JA;go_wp2_with fail;refine(F.o).mono ?_;rintro e w5 ⟨rfl,vG,wW,o5,gI,k5⟩;have ve:Hid (yt w2 w5 g w2.heap.size cE co cs ty wf T R (2*G2) i told (.slice ao l.length cv) l):=⟨tU.o.xT,tU.o.pt.XX k5 Pg.o ⟨vG,wW,o5,gI⟩,tU.o.xy.kept k5 (by have:=La.o;omega),tU.o.rest,tU.o.bN⟩;have KR:=ab (Pf.o.kept k5 (by show¬(w.heap.size+1=g.ob\/w.heap.size+1=g.WB);omega));have yE:=ab o5.at_.rk.jS;clear o5 gI k5 F tU Zm Pf m1b qC EB HR;go_wp2_with fail
    have PS:Hid (∀W,aa ai w5 W->Zb cE co (w.heap.size+1) (g.x.aZ i) g.x.s W):=fun W k=>by
     have a1:=((ve.o.xy.kept k (fun h=>h)).cell co).trans (Qw CI _ _);rw[CX.Jq eD]at a1;exact⟨a1,(KR.o.kept k (fun h=>h)).cell 0⟩
    have ak:=PS.o w5.drew (aa.refl ai w5).drew;refine j_ (gD (S:=Zb cE co (w.heap.size+1) (g.x.aZ i) g.x.s) 11 (by kernel_rfl) rfl rfl rfl (by kernel_rfl) (by kernel_rfl) ?_);refine aj 0 39 (BT cE co) ak ?_;refine aj 1 40 (BT cE co) ak ?_;refine aj 2 41 (BT cE co) ak ?_;refine aj 3 42 (GW (g.x.aZ i)) ak ?_;refine aj 4 43 (.pointer (some ⟨w.heap.size+1,0,none⟩)) ak ?_;refine aj 5 44 (.string g.x.s) ak ?_;refine aj 6 45 (GW (bd g.x.s i:Int)) ak ?_;simp only[Act.put,Aa,Ad,Ac];refine bR 7 fun K hK=>?_
    have F2:=afY w5.drew g.x.s i eD hs (yE.o.iR (aa.refl ai w5).drew);obtain⟨pQ,qm⟩:∃pQ,pQ=(BK g.x.s (i+1):Int)-(bd g.x.s i:Int):=⟨_,rfl⟩
    rw[<-qm]at F2;have yY:g.x.aZ i+pQ=g.x.fr (i+1):=by unfold CX.aZ CX.fr;omega
    have G_:=abK eD;have DA:IntKind.i64.wrap (g.x.fr (i+1))=g.x.fr (i+1):=by rw[Cr];unfold CX.fr;omega
    have F2:=ab F2;clear qm;go_simp;refine(F2.o).mono ?_;rintro e w6 ⟨rfl,k6⟩;dsimp only;have K6:Hid (aa ai w5 w6):=(aa.refl ai w5).drew.trans k6;refine hK.o _ _ (PS.o _ K6.o) (fun _=>?_);clear hK K k6 F2;refine bR 8 fun K hK=>?_
    go_simp;refine hK.o _ _ (PS.o _ K6.o) (fun _=>?_);clear hK K;refine bR 9 fun K hK=>?_
    go_simp;refine hK.o _ _ (PS.o _ K6.o) (fun _=>?_);clear hK K;refine bR 10 fun K hK=>?_
    go_simp;refine hK.o _ _ (PS.o _ K6.o) (fun _=>?_);clear hK K;refine At (by kernel_rfl) ?_ _;unfold eo;simp only[Ak,Ag,Ah];have JG:=ve.o.xy.kept K6.o (fun h=>h);have x6:w6.cell? (GB cE co)=some (GW (g.x.fr i)):=(JG.cell co).trans (Qw CI _ _);have y6:=JG.frozen co
    have aA:Hid (yt w2 (w6.setCell (GB cE co) (GW (g.x.fr (i+1)))) g w2.heap.size cE co cs ty wf T R (2*G2) (i+1) told (.slice ao l.length cv) l):=by
     have k:aa (fun i=>i=cE) w6 (w6.setCell (GB cE co) (GW (g.x.fr (i+1)))):=(aa.refl (fun i=>i=cE) w6).setCell (p:=(GB cE co)) (Or.inl rfl) _;refine⟨by omega,((ve.o.pt.iR K6.o).one k La.o GU.2.2 (by omega)).later (Gk _),?_,?_,Nat.le_succ_of_le ve.o.bN⟩
     ·have:=JG.setCell co (GW (g.x.fr (i+1)));rw[Jk]at this;exact this
     ·rw[<-Jn eD PD.o];exact ve.o.rest
    clear JG PS ak K6 ve KR yE;go_simp;refine jE ?_;go_wp2_with fail;go_roundg (g.x.n+1-(i+1))
    case measure=>omega
    case rel=>exact⟨i+1,told,l,rfl,aA⟩
   |some v=>
    obtain⟨j,jL⟩:=v;rw[JA]at HR;rw[On pV.o g.x so eD (List.replicate (2*G2) (-1)),HR.o]at F;simp only[Fd]at F;have F:=ab F;have PD:=ab JA;clear JA;go_wp2_with fail;refine(F.o).mono ?_;rintro e w5 ⟨rfl,vG,wW,o5,gI,k5⟩;have yA:=ab (tU.o.pt.XX k5 Pg.o ⟨vG,wW,o5,gI⟩);have Zz:=ab (tU.o.xy.kept k5 (by have:=La.o;omega));have KR:=ab (Pf.o.kept k5 (by show¬(w.heap.size+1=g.ob\/w.heap.size+1=g.WB);omega));have I1:=ab tU.o.rest;have hlf:=tU.o.bN;have F2:=ab (ads nA.o o5 eD gI lS.o so TY.o Jv HR.o);have RH:w2.heap.size<=w5.heap.size:=yA.o.kept.size;clear o5 gI k5 F tU Zm Pf m1b qC EB;go_wp2_with fail;refine(F2.o).mono ?_;rintro e w6 ⟨hA,hB,agW,wd6,o6,hb6,k6⟩;have bT:=DV pV.o g.x so eD _ j jL HR.o;have mD:j<=g.x.n:=bT.2.1;have cY:=bT.1;have vm:=ab (yA.o.XX k6 Pg.o ⟨agW,wd6,o6,hb6⟩);have Pj:=ab (Zz.o.kept k6 (by have:=La.o;omega));have Tq:=ab (KR.o.kept k6 (by show¬(w.heap.size+1=g.ob\/w.heap.size+1=g.WB);omega));have AI:=ab o6.at_.rk.jS;have WS:=k6.size;have aqt:=i_ g.x.s j;have Zv:Hid (g.x.aZ j=g.x.aE+(bd g.x.s j:Int)):=(rfl:_=_);have hpj:g.x.aZ j-g.x.aE=(bd g.x.s j:Int):=by have:=Zv.o;omega
    clear bT o6 hb6 k6 F2 yA Zz KR
    cases qj:(g.x.op&&decide (g.x.n<=j))with
    |true=>
     have he:=hB qj;subst he
     have aA:Hid (mR w6 w.heap.size (.slice ao l.length cv) g.x (2*G2) l/\l.map (·.1)=R.1/\au w6 cE (nN cs co (g.x.fr R.2.1) R.2.2) ty/\aa (fun i=>i=cE) w w6):=by
      have eG:g.x.op=true/\g.x.n<=j:=(by simpa using qj);have hr:=I1.o;rw[eG.1,abt eD PD.o eG.2,D3]at hr;have he:=vm.o.c_;refine⟨⟨ye he.row (by omega),fun p hp=>⟨by have:=(he.fA p hp).1;omega,(he.fA p hp).2⟩⟩,hr.1,?_,(K2.o.mono (S':=fun i=>i=cE) (fun _ h=>h.elim)).b_ vm.o.kept (fun i hi e=>by omega)⟩;rw[<-hr.2];exact Pj.o
     clear hA hB qj vm Pj Tq AI I1;go_wp2_with fail;go_ret;exact⟨_,l,rfl,aA.o.1.kept ((aa.refl ai w6).alloc _) (fun _ _ h=>h),aA.o.2.1,aA.o.2.2.1.kept ((aa.refl ai w6).alloc _) (fun h=>h),aA.o.2.2.2.alloc _⟩
    |false=>
     obtain⟨gb,he,k_,BV⟩:=hA qj;subst he;have yw:=ab BV;have LC:=ab qj;clear hA hB qj BV;go_wp2_with fail;have lK:aa ai w6 (w6.alloc (.cells #[GW (g.x.aZ i),GW (g.x.aZ j),.slice (some (GB gb 0)) (2*G2) (2*G2),.string (g.x.s.extract (bd g.x.s i) (bd g.x.s j))] 46)):=(aa.refl ai w6).alloc _;have Z7:=ab (vm.o.iR lK);have ZA:=ab (Pj.o.kept lK (fun h=>h));have Tr:=ab (Tq.o.kept lK (fun h=>h));have Zr:=ab (yw.o.kept lK (fun h=>h));have I3:=ab (AI.o.iR lK);have KQ:Hid (au (w6.alloc (.cells #[GW (g.x.aZ i),GW (g.x.aZ j),.slice (some (GB gb 0)) (2*G2) (2*G2),.string (g.x.s.extract (bd g.x.s i) (bd g.x.s j))] 46)) w6.heap.size #[GW (g.x.aZ i),GW (g.x.aZ j),.slice (some (GB gb 0)) (2*G2) (2*G2),.string (g.x.s.extract (bd g.x.s i) (bd g.x.s j))] 46):=au.new w6 _ _;have JW:w6.heap.size<(w6.alloc (.cells #[GW (g.x.aZ i),GW (g.x.aZ j),.slice (some (GB gb 0)) (2*G2) (2*G2),.string (g.x.s.extract (bd g.x.s i) (bd g.x.s j))] 46)).heap.size:=(by simp);generalize w6.alloc (.cells #[GW (g.x.aZ i),GW (g.x.aZ j),.slice (some (GB gb 0)) (2*G2) (2*G2),.string (g.x.s.extract (bd g.x.s i) (bd g.x.s j))] 46)=w7 at*;obtain⟨pj,ab9⟩:∃pj,pj=w6.heap.size:=⟨_,rfl⟩
     rw[<-ab9]at KQ JW WS⊢;clear ab9 lK vm Pj Tq yw AI;have PS:Hid (∀W,aa ai w7 W->Zc pj (w.heap.size+1) (g.x.aZ i) (g.x.aZ j) g.x.s g.x.aE W):=(fun W k=>⟨⟨(KQ.o.kept k (fun h=>h)).cell 0,(KQ.o.kept k (fun h=>h)).cell 1⟩,(Tr.o.kept k (fun h=>h)).cell 0,(Tr.o.kept k (fun h=>h)).cell 1⟩);have ak:=PS.o w7.drew (aa.refl ai w7).drew;refine j_ (gD (S:=Zc pj (w.heap.size+1) (g.x.aZ i) (g.x.aZ j) g.x.s g.x.aE) 13 (by kernel_rfl) rfl rfl rfl (by kernel_rfl) (by kernel_rfl) ?_);refine aj 0 58 (BT cE co) ak ?_;refine aj 1 59 (BT pj 0) ak ?_;refine aj 2 60 (GW (g.x.aZ i)) ak ?_;refine aj 3 61 (BT pj 1) ak ?_;refine aj 4 62 (GW (g.x.aZ j)) ak ?_;refine aj 5 63 (.pointer (some ⟨w.heap.size+1,0,none⟩)) ak ?_;refine aj 6 64 (.string g.x.s) ak ?_;refine aj 7 65 (BT pj 1) ak ?_;refine aj 8 66 (GW (g.x.aZ j)) ak ?_;refine aj 9 67 (.pointer (some ⟨w.heap.size+1,1,none⟩)) ak ?_;refine aj 10 68 (GW g.x.aE) ak ?_;refine mP 11 69 (GW (bd g.x.s j:Int)) rfl rfl (by kernel_rfl) (by kernel_rfl) (by kernel_rfl) (fun _ _ _ h=>h) (Or.inl ⟨by rfl,fun W ff=>by obtain⟨⟨s0,s1⟩,s2,s3⟩:=ff;go_simp;rw[Cr];omega⟩) ak ?_;simp only[Act.put,Aa,Ad,Ac];refine bR 12 fun K hK=>?_
     have F2:=afY w7.drew g.x.s j mD hs (I3.o.iR (aa.refl ai w7).drew);obtain⟨pQ,qm⟩:∃pQ,pQ=(BK g.x.s (j+1):Int)-(bd g.x.s j:Int):=⟨_,rfl⟩
     rw[<-qm]at F2;have yY:g.x.aZ j+pQ=g.x.fr (j+1):=by unfold CX.aZ CX.fr;omega
     have G_:=abK mD;have DA:0<=pQ/\pQ<=4:=(by omega);have HAD:=ab yY;have F2:=ab F2;clear qm yY G_;go_simp;refine(F2.o).mono ?_;rintro e w8 ⟨rfl,k8⟩;dsimp only;have K8:Hid (aa ai w7 w8):=(aa.refl ai w7).drew.trans k8;refine hK.o _ _ (PS.o _ K8.o) (fun _=>?_);clear hK K k8 F2;refine At (by kernel_rfl) ?_ _;unfold eo;simp only[Ak,Ag,Ah];have F3:=aeD w8 cE co cs ty (g.x.fr i) told (g.x.aZ i) (g.x.aZ j) pQ (ZA.o.kept K8.o (fun h=>h)) CI (by have:=Zv.o;omega) DA;obtain⟨rb,i',zu,qe,hi',acg,ach⟩:=anf (told:=told) oY.o eD mD cY PD.o LC.o HAD.o;rw[zu,qe]at F3;have F3:=ab F3;have Ly:=ab (Z7.o.iR K8.o);have Zs:=ab (Zr.o.kept K8.o (fun h=>h));have Y3:=ab (KQ.o.kept K8.o (fun h=>h));have hs8:=K8.o.size;have lQ:=ab acg;have ji:=ab ach;clear PS ak zu qe acg ach Z7 ZA Tr Zr I3 KQ;go_simp;refine(F3.o).mono ?_;rintro e w9 ⟨rfl,k9,hc9⟩;dsimp only;refine jE ?_;have vn:=ab ((Ly.o.one k9 La.o GU.2.2 (by omega)).later (NQ:=i') (by omega));have Pk:=ab hc9;have Zt:=ab (Zs.o.kept k9 (by omega));have agc:=k9.cell (p:=(GB pj 0)) (by show pj<_;omega) (by show¬pj=cE;omega);have BX:=Y3.o.kept k9 (by omega);have x0:w9.cell? (GB pj 0)=some (GW (g.x.aZ i)):=BX.cell 0;have x1:w9.cell? (GB pj 1)=some (GW (g.x.aZ j)):=BX.cell 1;have x2:w9.cell? (GB pj 2)=some (.slice (some (GB gb 0)) (2*G2) (2*G2)):=BX.cell 2;have x3:w9.cell? (GB pj 3)=some (.string (g.x.s.extract (bd g.x.s i) (bd g.x.s j))):=BX.cell 3;have hs9:=k9.size;clear agc BX k9 hc9 F3 Ly Zs Y3
     cases rb with
     |false=>
      have aA:Hid (yt w2 w9 g w2.heap.size cE co cs ty wf T R (2*G2) i' (g.x.aZ j) (.slice ao l.length cv) l):=⟨hi'.2.1,vn.o,Pk.o,by rw[<-ji.o rfl];exact I1.o,by omega⟩;clear vn Pk lQ ji I1;go_wp2_with fail;go_roundg (g.x.n+1-i')
      case measure=>omega
      case rel=>exact⟨i',g.x.aZ j,l,rfl,aA⟩
     |true=>
      have Hk:l.length<=10000000:=by have:=OD g.x.s;unfold CX.n at eD;omega
      have ik:=ab vn.o.c_.row;go_wp2_with (at_builtin;refine Ao _ rfl _ _ 24 rfl w2.heap.size 46 ie _ 4 56 underlying24 qg NM lJ JD rfl (by decide) _ _ _ rfl (ik.o.alloc _) (GB w9.heap.size 0) 1 1 (xA g.x (2*G2) ⟨i,j,jL⟩ gb) rfl rfl ?c1 ?c2 ?c3 ?c4 ?c5 ?_)
      case c1=>
       intro q u hq;simpa[xA]using hq
      case c2=>
       intro u hu;unfold xA at hu;simp at hu;rcases hu with rfl|rfl|rfl|rfl<;>rfl
      case c3=>unfold maxLen;omega
      case c4=>omega
      case c5=>omega
      intro v' IM bL cy eF cI;obtain⟨jl,c',rfl⟩:=cw bL
      have aA:Hid (yt w2 IM g w2.heap.size cE co cs ty wf T R (2*G2) i' (g.x.aZ j) (.slice jl (l.length+1) c') (l++[(⟨i,j,jL⟩,gb)])):=by
       obtain⟨hp,kp⟩:=vn.o.push (p:=(⟨i,j,jL⟩,gb)) Pg.o rfl ((aa.refl ai w9).alloc _) ⟨by show w2.heap.size<=gb;omega,Zt.o⟩ bL cy;have hr:=I1.o;rw[lQ.o (by first|rfl|trivial)]at hr;refine⟨hi'.2.1,hp,Pk.o.kept kp (by omega),⟨?_,hr.2⟩,by simp;omega⟩;rw[<-hr.1];simp
      clear bL cy eF cI vn Pk lQ ji I1 ik Zt;go_wp2_with fail;go_roundg (g.x.n+1-i')
      case measure=>omega
      case rel=>exact⟨i',g.x.aZ j,l++[(⟨i,j,jL⟩,gb)],rfl,aA⟩
  ·have ajI:i=g.x.n+1:=by have:=HI.o.xT;omega
   have hfe:g.x.fr i=g.x.aE+((g.x.s.size+1:Nat):Int):=by unfold CX.fr;rw[Vi (by unfold CX.n at ajI;omega)]
   rw[hfe]at cC;have hle:¬g.x.aE+((g.x.s.size+1:Nat):Int)<=g.x.aE+(g.x.s.size:Int):=by omega
   have aA:Hid (mR wr w.heap.size (.slice ao l.length cv) g.x (2*G2) l/\l.map (·.1)=R.1/\au wr cE (nN cs co (g.x.fr R.2.1) R.2.2) ty/\aa (fun i=>i=cE) w wr):=by
    have hr:=HI.o.rest;rw[Mp (by omega),D3]at hr;have he:=HI.o.pt.c_;refine⟨⟨ye he.row (by omega),fun p hp=>⟨by have:=(he.fA p hp).1;omega,(he.fA p hp).2⟩⟩,hr.1,by rw[<-hr.2];exact HI.o.xy,(K2.o.mono (S':=fun i=>i=cE) (fun _ h=>h.elim)).b_ HI.o.pt.kept (fun i hi e=>by omega)⟩
   clear HI sJ jU;go_wp2_with fail;go_big_quiet (fail);go_wp2_with fail;go_ret;exact⟨_,l,rfl,aA.o.1.kept ((aa.refl ai wr).drewN nq) (fun _ _ h=>h),aA.o.2.1,aA.o.2.2.1,aA.o.2.2.2.drewN nq⟩
theorem adI(w:World):Calls prog 41 #[] w fun e w'=>e=.returned (.agg #[GW 0,GW (-1)])/\aa ai w w':=by
 go_in
 go_wp2_with fail
 exact Bm (v:=.agg #[GW 0,GW (-1)]) (by simp[results,results41,go_sem]) rfl ⟨rfl,(aa.refl ai w).alloc _⟩
theorem mR.apV(h:mR w base v (aQ s) N2 l):rH w base v s N2 l:=by
 have e:∀p:Ev×Nat,xA (aQ s) N2 p.1 p.2=vM s N2 p.1 p.2:=fun p=>by
  unfold xA vM CX.aZ aQ;simp
 have e2:yS (aQ s) N2 l=ug s N2 l:=by
  unfold yS ug;congr 1;funext p;exact e p
 exact⟨by rw[<-e2];exact h.row,h.fA⟩
theorem abu(kC:oc T (aJ s).length):(e_ T (aQ s).n (aQ s).aZ (aQ s).op 0 (-1)).1=Mq T (aJ s).length 0 none:=by
 have hb:∀i,(aQ s).aZ i=(bd s i:Int):=fun i=>by unfold CX.aZ aQ;simp
 exact aip (b:=(aQ s).aZ) (fun i j hi hj h=>aaM (x:=aQ s) hi hj h) (fun i=>by rw[hb];omega) _ 0 none (fun p hp=>by cases hp) kC
theorem agb(hM:jj w lo hi mb c vs ms)(ia:fg ms)(hq:iJ (G2:Int) ms)(dy:ms.length<=4001)(hs:s.size<=10000000)(so:u0<ms.length)(Jv:G2<=100000)
 (hT:∀i,i<=(aJ s).length->cT ms (iA s) (u0:Int) i (List.replicate (2*G2) (-1)) (T i))(kC:oc T (aJ s).length):
 Calls prog 22 #[.agg #[.slice (some (GB mb 0)) ms.length c,GW (u0:Int),GW (G2:Int)],.string s] w fun e w'=>∃(v:Value) (l:List (Ev×Nat)),e=.returned v/\rH w' w.heap.size v s (2*G2) l/\l.map (·.1)=Mq T (aJ s).length 0 none/\aa ai w w':=by
 have hTl:=hM.jS.lt;have hMl:=hM.iz.lt;have hHl:=hM.le;have F:=ab fun(W:World)=>adI W
 have F2:=ab fun(W:World) (k:aa ai w W) (cE:Nat) (hc:au W cE #[GW 0,GW (-1)] 101) (fC:w.heap.size<=cE)=>Zd (x:=aQ s) (co:=0) (cs:=#[GW 0,GW (-1)]) (i0:=0) (Kz:= -1) (hM.kept k) ia hq dy hs ⟨Cm _,by show(0:Int)<=_;omega⟩ so Jv (fun i hi=>ae4 ia s (hT i hi) hi) kC (show au W cE (nN #[GW 0,GW (-1)] 0 ((aQ s).fr 0) (-1)) 101 by rw[CX.Jq (Al _),show(aQ s).aZ 0=0 by unfold CX.aZ aQ;simp[sS]];exact hc) (by simp) (Al _) rfl ⟨by omega,by omega,by omega,by omega⟩
 have TR:=ab (abu (s:=s) kC);clear hM ia hq hT kC;go_in;go_wp2_with fail;refine(F.o _).mono ?_;rintro e w1 ⟨rfl,k1⟩;have hb:=(au.new w #[.slice (some (GB mb 0)) ms.length c,GW (u0:Int),GW (G2:Int)] 73).kept k1 (fun h=>h);have x0:w1.cell? (GB w.heap.size 0)=some (.slice (some (GB mb 0)) ms.length c):=hb.cell 0;have x1:w1.cell? (GB w.heap.size 1)=some (GW (u0:Int)):=hb.cell 1;have x2:w1.cell? (GB w.heap.size 2)=some (GW (G2:Int)):=hb.cell 2;have gJ:=hb.lt;have K1:Hid (aa ai w w1):=((aa.refl ai w).alloc _).trans k1;clear hb k1;go_wp2_with fail;have K2:Hid (aa ai w (w1.alloc (.cells #[GW 0,GW (-1)] 101))):=K1.o.alloc _;have FF:=ab (F2.o _ K2.o w1.heap.size (au.new w1 _ _) K1.o.size);refine(FF.o).mono ?_;rintro e w3 ⟨v,l,rfl,MG,Ng,_,k3⟩;have hE:=MG.apV;have hl:l.map (·.1)=Mq T (aJ s).length 0 none:=Ng.trans TR.o;have cZ:=K1.o.size
 have aA:Hid (rH w3 w.heap.size v s (2*G2) l/\l.map (·.1)=Mq T (aJ s).length 0 none/\aa ai w w3):=by
  have e:(w1.alloc (.cells #[GW 0,GW (-1)] 101)).heap.size=w1.heap.size+1:=fP _ _;rw[e]at hE;exact⟨⟨ye hE.row (by omega),fun p hp=>⟨by have:=(hE.fA p hp).1;omega,(hE.fA p hp).2⟩⟩,hl,K2.o.b_ k3 (fun i hi e=>by omega)⟩
 clear hE hl k3 FF F2;go_wp2_with fail;go_ret;exact⟨v,l,rfl,aA.o.1,aA.o.2.1,aA.o.2.2⟩
def aa3(rs ps:List Int):RG:={b:=0,ao:=none,br:=0,cr:=0,bp:=0,cp:=0,bf:=0,bn:=0,rs:=rs,ps:=ps}
def RG.mY(g:RG):RG:=aa3 g.rs g.ps
theorem aei(g:RG):∀m,mM g m=mM g.mY m
 |0=>rfl
 |m+1=>by
  funext st
  show(if aC g st= -1\/aK qn (aC g st)=true then st else mM g m (gi g st))=_
  rw[aei g m];rfl
theorem ael(g:RG)(first:Nat):∀m,lL g first m=lL g.mY first m
 |0=>rfl
 |m+1=>by
  funext st
  show(if st.next<first+8/\aK oP (aC g st)=true then lL g first m {st with next:=st.next+1}else st)=_
  rw[ael g first m];rfl
theorem amN(g:RG):sD g=sD g.mY:=by
 funext st
 unfold sD;rw[aei];rfl
theorem amW(g:RG):pL g=pL g.mY:=by
 funext st
 unfold pL;rw[ael];rfl
theorem aed(g:RG):iH g=iH g.mY:=by
 funext st
 unfold iH;rw[amW];rfl
theorem ad9(g:RG)(aI:RS->RS×PT):dE g aI=dE g.mY aI:=by
 funext st
 unfold dE wM;rw[aed,amN];rfl
theorem aex(g:RG)(aI:RS->RS×PT):∀m,jy g aI m=jy g.mY aI m
 |0=>rfl
 |m+1=>by
  funext st aF
  show(if aC g st= -1\/aK uM (aC g st)=true then(st,aF)else jy g aI m (iw g (dE g aI st).2 (dE g aI st).1).1 (aF++[(iw g (dE g aI st).2 (dE g aI st).1).2]))=_
  rw[aex g aI m,ad9];rfl
theorem Sq(g:RG)(aI:RS->RS×PT):eR g aI=eR g.mY aI:=by
 funext st
 unfold eR;rw[aex];rfl
theorem ad6(g:RG)(aI:RS->RS×PT):∀m,iG g aI m=iG g.mY aI m
 |0=>rfl
 |m+1=>by
  funext st aF
  show(if aK wD (aC g st)then iG g aI m (eR g aI {st with next:=st.next+1}).1 (aF++[(eR g aI {st with next:=st.next+1}).2])else(st,aF))=_
  rw[ad6 g aI m,Sq];rfl
theorem X5(g:RG):∀k,aY g k=aY g.mY k
 |0=>rfl
 |k+1=>by
  funext st
  show((iG g (aY g k) (g.rs.length+1) (eR g (aY g k) st).1 [(eR g (aY g k) st).2]).1,PT.node 3 (iG g (aY g k) (g.rs.length+1) (eR g (aY g k) st).1 [(eR g (aY g k) st).2]).2 0 0)=_
  rw[X5 g k,ad6,Sq];rfl
theorem aaT(g:RG):∀m,rO g m=rO g.mY m
 |0=>rfl
 |m+1=>by
  funext st aF
  show(if aC g st= -1\/aK qn (aC g st)=true then aF else rO g m (gi g st) (aF++iN g st))=_
  rw[aaT g m];rfl
theorem ahh(g:RG)(bZ:Bool->RS->CT):ko g bZ=ko g.mY bZ:=by
 funext fo st
 unfold ko sV Me;rw[aed,aaT];rfl
theorem aaV(g:RG)(aI:RS->RS×PT)(bZ:Bool->RS->CT)(fo:Bool):∀m,my g aI bZ fo m=my g.mY aI bZ fo m
 |0=>rfl
 |m+1=>by
  funext st aF
  show(if aC g st= -1\/aK uM (aC g st)=true then aF else my g aI bZ fo m (iw g (dE g aI st).2 (dE g aI st).1).1 (aF++[nK g (ko g bZ fo st) (dE g aI st).1]))=_
  rw[aaV g aI bZ fo m,ad9,ahh];rfl
theorem aaU(g:RG)(aI:RS->RS×PT)(bZ:Bool->RS->CT):nL g aI bZ=nL g.mY aI bZ:=by
 funext fo st
 unfold nL;rw[aaV];rfl
theorem aaR(g:RG)(aI:RS->RS×PT)(bZ:Bool->RS->CT)(fo:Bool):∀m,lE g aI bZ fo m=lE g.mY aI bZ fo m
 |0=>rfl
 |m+1=>by
  funext st aF
  show(if aK wD (aC g st)then lE g aI bZ fo m (eR g aI {st with next:=st.next+1}).1 (aF++[nL g aI bZ fo {st with next:=st.next+1}])else aF)=_
  rw[aaR g aI bZ fo m,Sq,aaU];rfl
theorem aaQ(g:RG):∀k,dR g k=dR g.mY k
 |0=>rfl
 |k+1=>by
  funext fo st
  show CT.node 4 [] false false 0 0 0 0 false (lE g (aY g k) (dR g k) fo (g.rs.length+1) (eR g (aY g k) st).1 [nL g (aY g k) (dR g k) fo st])=_
  rw[aaQ g k,X5 g k,aaR,Sq,aaU];rfl
theorem am8(g:RG)(st:RS):eJ g st=eJ g.mY st:=by
 unfold eJ;rw[X5];rfl
theorem ahj(g:RG)(st:RS):pk g st=pk g.mY st:=by
 unfold pk;rw[aaQ];rfl
def pO(p:ByteArray):RG:=aa3 ((gT p (p.size+1) 0).map (·.2)) ((gT p (p.size+1) 0).map (fun q=>(q.1:Int))++[(p.size:Int)])
theorem ahZ{g:RG}(h1:g.rs=(gT p (p.size+1) 0).map (·.2))(h2:g.ps=(gT p (p.size+1) 0).map (fun q=>(q.1:Int))++[(p.size:Int)]):g.mY=pO p:=by unfold RG.mY pO;rw[h1,h2]
theorem afW{g:RG}(h1:g.rs=(gT p (p.size+1) 0).map (·.2))(h2:g.ps=(gT p (p.size+1) 0).map (fun q=>(q.1:Int))++[(p.size:Int)]):(∀st,eJ g st=eJ (pO p) st)/\(∀st,pk g st=pk (pO p) st)/\kX g p=kX (pO p) p:=by
 have e:=ahZ h1 h2;have a1:∀st,eJ g st=eJ (pO p) st:=fun st=>by rw[am8,e]
 refine⟨a1,fun st=>by rw[ahj,e],?_⟩;unfold kX;rw[a1]
theorem an_(p:ByteArray):vz (pO p):=fun r hr=>by
 have hr:r∈ (gT p (p.size+1) 0).map (·.2):=hr;obtain⟨q,hq,rfl⟩:=Be.1 hr;exact Ys p _ _ q hq
def lM(p:ByteArray):CT:=pk (pO p) (dI p)
def gM(p:ByteArray):Nat:=(eJ (pO p) (dI p)).1.aT
def jH(p:ByteArray):Int:=if 300<p.size then 1 else(pick (kX (pO p) p)).1
theorem aeE(hs:p.size<=300)(h:jH p=0):(lM p).ok/\(eJ (pO p) (dI p)).2.size<=1000/\(lM p).g_ (gM p:Int)/\(lM p).lP:=by
 unfold jH at h;rw[if_neg (by omega)]at h;obtain⟨h1,h2⟩:=aiz h;exact⟨apX _ _ h1,h2,ai6 _ _,ap5 (an_ p) _ h1⟩
