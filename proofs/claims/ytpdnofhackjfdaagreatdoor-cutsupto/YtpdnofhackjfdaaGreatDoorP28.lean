/- Package whole's Events and All -/
import Derived.Test.YtpdnofhackjfdaaGreatDoorP27
set_option linter.all false
set_option maxRecDepth 100000
set_option maxHeartbeats 8000000
namespace Go.Proofs.YtpdnofhackjfdaaGreatDoor
open Go.Proofs.Tryz
open Go.RowKit Go.Maps
variable {cs:Array Value} {p s:ByteArray} {x:CX} {told:Int} {l:List (Ev×Nat)} {R:List Ev×Nat×Int} {ms:List MS} {wf:List Nat} {vs:List Sv} {G2 N2 base c cu co hi i io MB j lo mb u0:Nat} {T:Nat->iH} {K:Nat->Prop} {g:OG} {ty:TypeId} {v v':Value} {W w w' w7 wr:World}
def zU(s:ByteArray)(i:Nat):Nat:=if i<=(aF s).length then bd s i else s.size+1
theorem TW(h:i<=(aF s).length):zU s i=bd s i:=if_pos h
theorem TV(h:(aF s).length<i):zU s i=s.size+1:=if_neg (by omega)
theorem aa4(h:i<=(aF s).length):bd s i<zU s (i+1)/\zU s (i+1)<=bd s i+4:=by
 by_cases hl:i<(aF s).length
 ·rw[TW (by omega)];exact pE hl
 ·rw[TV (by omega)];have:=nf (s:=s) (i:=i) (by omega);omega
theorem afe(w:World)(s:ByteArray)(i:Nat)(hi:i<=(aF s).length)(hs:s.size<=10000000)(hT:ik w):Calls prog 62 #[.string s,.int .i64 (bd s i:Int)] w fun e w'=>e=.returned (.int .i64 ((zU s (i+1):Int)-(bd s i:Int)))/\aa af w w':=by
 by_cases hl:i<(aF s).length
 ·rw[TW (by omega)];exact afd w s i hl hs hT
 ·refine(aff s (bd s i) w (iP s i) (by omega) hT).mono ?_;rintro e w' ⟨rfl,hk⟩;refine⟨?_,hk⟩;have hb:=nf (s:=s) (i:=i) (by omega);rw[TV (by omega),hb]
  have e0:(s.extract s.size s.size)=ByteArray.empty:=by
   apply E9
   simp
  rw[e0];have e1:(Lib.decodeGo ByteArray.empty).2=0:=by kernel_rfl
  rw[e1];congr 2;omega
def zP(s:ByteArray)(N2:Nat)(e:Ev)(gb:Nat):List Value:=[.int .i64 (bd s e.a:Int),.int .i64 (bd s e.b:Int),.slice (some ⟨gb,0,none⟩) N2 N2,.string (s.extract (bd s e.a) (bd s e.b))]
def Ix(s:ByteArray)(N2:Nat)(l:List (Ev×Nat)):List Value:=l.flatMap fun p=>zP s N2 p.1 p.2
structure sm(w:World)(base:Nat)(v:Value)(s:ByteArray)(N2:Nat)(l:List (Ev×Nat)):Prop where
 row:w.ownsRow base 46 4 v l.length (Ix s N2 l)
 fE:∀p∈l,base<=p.2/\aq w p.2 (cH p.1.gs).toArray 3
theorem sm.kept(h:sm w base v s N2 l)(k:aa K w w')(hK:∀i,base<=i->¬K i):sm w' base v s N2 l:=
 ⟨bR h.row k (fun b hb=>hK b (dw h.row hb).1),fun p hp=>⟨(h.fE p hp).1,(h.fE p hp).2.kept k (hK _ (h.fE p hp).1)⟩⟩
def wP(x:CX)(N2:Nat)(e:Ev)(gb:Nat):List Value:=[.int .i64 (x.aW e.a),.int .i64 (x.aW e.b),.slice (some ⟨gb,0,none⟩) N2 N2,.string (x.s.extract (bd x.s e.a) (bd x.s e.b))]
def yk(x:CX)(N2:Nat)(l:List (Ev×Nat)):List Value:=l.flatMap fun p=>wP x N2 p.1 p.2
structure mA(w:World)(base:Nat)(v:Value)(x:CX)(N2:Nat)(l:List (Ev×Nat)):Prop where
 row:w.ownsRow base 46 4 v l.length (yk x N2 l)
 fE:∀p∈l,base<=p.2/\aq w p.2 (cH p.1.gs).toArray 3
theorem mA.nil(w:World)(base:Nat)(x:CX)(N2:Nat):mA w base (.slice none 0 0) x N2 []:=⟨A7 _ _ _ _,fun p h=>by cases h⟩
theorem mA.kept(h:mA w base v x N2 l)(k:aa K w w')(hK:∀i,base<=i->¬K i):mA w' base v x N2 l:=
 ⟨bR h.row k (fun b hb=>hK b (dw h.row hb).1),fun p hp=>⟨(h.fE p hp).1,(h.fE p hp).2.kept k (hK _ (h.fE p hp).1)⟩⟩
theorem ahz(x:CX)(N2:Nat)(l:List (Ev×Nat))(p:Ev×Nat):yk x N2 (l++[p])=yk x N2 l++wP x N2 p.1 p.2:=by unfold yk;simp
theorem mA.QN(h:mA w base v x N2 l){b:Nat}(hb:aq w b cs 3):v.ownBlock≠some b:=fun e=>by
 rcases h.row.2 with⟨rfl,_⟩|⟨g,cap,aL,rfl,a1,a2,r⟩
 ·simp[Value.ownBlock]at e
 ·simp[Value.ownBlock]at e
  subst e;unfold aq at hb;rw[a2]at hb;simp at hb
theorem mA.push(h:mA w base v x N2 l)(k0:aa af w W){p:Ev×Nat}(hp:base<=p.2/\aq w p.2 (cH p.1.gs).toArray 3)
 (bk:w7.ownsRow base 46 4 v' (l.length+1) (yk x N2 l++wP x N2 p.1 p.2))(hg:W.grownBy w7 v.ownBlock):mA w7 base v' x N2 (l++[p])/\aa (fun i=>base<=i) w w7:=by
 have k7:aa (fun j=>v.ownBlock=some j) w w7:=(k0.mono (fun i hx=>hx.elim)).eN hg (fun j hj=>Or.inl hj);refine⟨⟨by rw[Aj,ahz];exact bk,fun q hq=>?_⟩,k7.mono (fun i hi=>(dw h.row hi).1)⟩;rcases Ap.1 hq with hq|hq
 ·exact⟨(h.fE q hq).1,(h.fE q hq).2.kept k7 (h.QN (h.fE q hq).2)⟩
 ·simp at hq
  subst hq;exact⟨hp.1,hp.2.kept k7 (h.QN hp.2)⟩
def CX.fr(x:CX)(i:Nat):Int:=x.aB+(zU x.s i:Int)
theorem CX.Iz(h:i<=x.n):x.fr i=x.aW i:=by unfold CX.fr CX.aW;rw[TW h]
structure pA(w wr:World)(g:OG)(base cu:Nat)(wf:List Nat)(N2 io:Nat)(v:Value)(l:List (Ev×Nat)):Prop where
 out:∃ak wd,oO wr g ak wf wd/\g.aD.getD ak 0<=io
 cS:mA wr base v g.x N2 l
 kept:aa (fun i=>i=g.ob\/i=g.WB\/i=cu) w wr
structure xM(w wr:World)(g:OG)(base cu co:Nat)(cs:Array Value)(ty:TypeId)(wf:List Nat)(T:Nat->iH)(R:List Ev×Nat×Int)(N2:Nat)(i:Nat)(told:Int)(v:Value)(l:List (Ev×Nat)):Prop where
 xl:i<=g.x.n+1
 pt:pA w wr g base cu wf N2 i v l
 wN:aq wr cu (nu cs co (g.x.fr i) told) ty
 rest:l.map (·.1)++(eM T g.x.n g.x.aW g.x.op i told).1=R.1/\(eM T g.x.n g.x.aW g.x.op i told).2=R.2
 bT:l.length<=i
theorem Tryz.VE:(prog.info? 46).map (fun i=>(i.zero,i.size,i.bytes))=some (some (.agg #[.int .i64 0,.int .i64 0,.slice none 0 0,.string ⟨#[]⟩]),4,56):=by kernel_rfl
def XQ(oR b4:Nat)(x y:Int)(s:ByteArray)(bg:Int)(W:World):Prop:=(W.cell? ⟨oR,0,none⟩=some (.int .i64 x)/\W.cell? ⟨oR,1,none⟩=some (.int .i64 y))/\W.cell? ⟨b4,0,none⟩=some (.string s)/\W.cell? ⟨b4,1,none⟩=some (.int .i64 bg)
def XP(cu co b4:Nat)(f:Int)(s:ByteArray)(W:World):Prop:=W.cell? ⟨cu,co,none⟩=some (.int .i64 f)/\W.cell? ⟨b4,0,none⟩=some (.string s)
theorem ij.one{ak B:Nat}{wr:List Nat}(h:ij w g ak wf wr)(k:aa (fun i=>i=B) w w')(h1:B≠g.ob/\B≠g.mb/\¬(g.lo<=B/\B<g.hi))(h2:B≠0/\B≠1)(h3:B≠g.cK/\B≠g.fh/\B≠g.rh)(h4:B≠g.FB/\B≠g.WB):ij w' g ak wf wr where
 rk:=h.rk.kept k (fun e=>h1.1 e.symm) (fun e=>h1.2.1 e.symm) (fun i a b e=>h1.2.2 (by subst e;exact⟨a,b⟩)) (fun e=>h2.1 e.symm) (fun e=>h2.2 e.symm)
 bg i hi:=(k.cell (p:=⟨g.cK,i,none⟩) h.lt.1 (fun e=>h3.1 e.symm)).trans (h.bg i hi)
 fh i hi:=(k.cell (p:=⟨g.fh,i,none⟩) h.lt.2.1 (fun e=>h3.2.1 e.symm)).trans (h.fh i hi)
 rh i hi:=(k.cell (p:=⟨g.rh,i,none⟩) h.lt.2.2 (fun e=>h3.2.2 e.symm)).trans (h.rh i hi)
 lt:=by have:=k.size;have:=h.lt;omega
 bf:=h.bf.kept k (fun e=>h4.1 e.symm)
 bw:=h.bw.kept k (fun e=>h4.2 e.symm)
 fl:=h.fl
 wl:=h.wl
theorem pA.iU(h:pA w wr g base cu wf N2 io v l)(k:aa af wr w'):pA w w' g base cu wf N2 io v l:=by
 obtain⟨ak,wd,o1,o2⟩:=h.out;exact⟨⟨ak,wd,o1.kept k,o2⟩,h.cS.kept k (fun _ _ h=>h),h.kept.trans (k.mono (fun _ h=>h.elim))⟩
theorem xM.iU(h:xM w wr g base cu co cs ty wf T R N2 i told v l)(k:aa af wr w'):xM w w' g base cu co cs ty wf T R N2 i told v l:=
 ⟨h.xl,h.pt.iU k,h.wN.kept k (fun h=>h),h.rest,h.bT⟩
theorem pA.Wn(h:pA w wr g base cu wf N2 io v l)(k:aa (fun i=>i=g.ob\/i=g.WB) wr w')(hb:g.below base)(ho:∃ak wd,oO w' g ak wf wd/\g.aD.getD ak 0<=MB):pA w w' g base cu wf N2 MB v l:=by
 refine⟨ho,h.cS.kept k (fun i hi e=>?_),h.kept.trans (k.mono (fun i e=>by rcases e with e|e;exact Or.inl e;exact Or.inr (Or.inl e)))⟩;unfold OG.below at hb;omega
theorem pA.one(h:pA w wr g base cu wf N2 io v l)(k:aa (fun i=>i=cu) wr w')(IQ:(cu≠g.ob/\cu≠g.mb/\¬(g.lo<=cu/\cu<g.hi))/\(cu≠g.cK/\cu≠g.fh/\cu≠g.rh)/\cu≠g.FB/\cu≠g.WB)(yv:cu≠0/\cu≠1)(EI:cu<base):pA w w' g base cu wf N2 io v l:=by
 obtain⟨ak,wd,o1,o2⟩:=h.out;exact⟨⟨ak,wd,⟨o1.at_.one k IQ.1 yv IQ.2.1 IQ.2.2,o1.lt,o1.Ln,o1.rows⟩,o2⟩,h.cS.kept k (fun i hi e=>by omega),h.kept.trans (k.mono (fun i e=>Or.inr (Or.inr e)))⟩
theorem pA.later(h:pA w wr g base cu wf N2 io v l)(hi:io<=MB):pA w wr g base cu wf N2 MB v l:=by
 obtain⟨ak,wd,o1,o2⟩:=h.out;exact⟨⟨ak,wd,o1,by omega⟩,h.cS,h.kept⟩
theorem pA.push(h:pA w wr g base cu wf N2 io v l)(hb:g.below base)(hw:base=w.heap.size)(k0:aa af wr W){p:Ev×Nat}(hp:base<=p.2/\aq wr p.2 (cH p.1.gs).toArray 3)
 (bk:w7.ownsRow base 46 4 v' (l.length+1) (yk g.x N2 l++wP g.x N2 p.1 p.2))(hg:W.grownBy w7 v.ownBlock):pA w w7 g base cu wf N2 io v' (l++[p])/\aa (fun i=>base<=i) wr w7:=by
 obtain⟨e1,k1⟩:=h.cS.push k0 hp bk hg;obtain⟨ak,wd,o1,o2⟩:=h.out;exact⟨⟨⟨ak,wd,o1.wQ hb k1,o2⟩,e1,h.kept.bV k1 (fun i hi e=>by omega)⟩,k1⟩
theorem Z3(hi:i<=x.n)(hj:j<=x.n)(h:x.aW i=x.aW j):i=j:=by
 unfold CX.aW at h;exact ON hi hj (by omega)
theorem amk(kh:nO T x.n){jC:List Int}(hi:i<=x.n)(hj:j<=x.n)(cQ:i<=j)(hT:T i=some (j,jC))(ho:(x.op&&decide (x.n<=j))=false){pq:Int}(hw:x.aW j+pq=x.fr (j+1)):
 ∃(rb:Bool) (i':Nat),(!((x.aW i==x.aW j)&&(x.aW j==told)))=rb/\(if x.aW i=x.aW j then x.aW j+pq else x.aW j)=x.fr i'/\(i<i'/\i'<=x.n+1/\j<=i')/\(rb=true->eM T x.n x.aW x.op i told=(⟨i,j,jC⟩::(eM T x.n x.aW x.op i' (x.aW j)).1,(eM T x.n x.aW x.op i' (x.aW j)).2))/\(rb=false->eM T x.n x.aW x.op i told=eM T x.n x.aW x.op i' (x.aW j)):=by
 have ke:=Iw (b:=x.aW) (op:=x.op) (told:=told) kh hi hT ho;by_cases e:i=j
 ·subst e;rw[if_pos rfl]at ke;by_cases e2:told=x.aW i
  ·rw[if_pos e2]at ke;exact⟨false,i+1,by simp[e2],by rw[if_pos rfl];exact hw,by omega,fun h=>(by cases h),fun _=>by rw[ke,e2]⟩
  ·rw[if_neg e2]at ke;exact⟨true,i+1,by simp;exact fun h=>e2 h.symm,by rw[if_pos rfl];exact hw,by omega,fun _=>ke,fun h=>(by cases h)⟩
 ·rw[if_neg e]at ke;have az:x.aW i≠x.aW j:=fun h=>e (Z3 hi hj h)
  have hb:(x.aW i==x.aW j)=false:=by simpa using az
  refine⟨true,j,by rw[hb];rfl,by rw[if_neg az,CX.Iz hj],by omega,fun _=>ke,fun h=>(by cases h)⟩
theorem XR{i0:Nat}{JI:Int}(hM:jb w lo hi mb c vs ms)(gQ:eR ms)(hq:iz (G2:Int) ms)(dh:ms.length<=4001)(hs:x.s.size<=10000000)(IM:0<=x.aB/\x.aB<=1000000000000)(rM:u0<ms.length)(IE:G2<=100000)
 (hT:∀i,i<=x.n->cW ms x (u0:Int) i (List.replicate (2*G2) (-1))=T i)(kh:nO T x.n)(hc:aq w cu (nu cs co (x.fr i0) JI) ty)(EJ:co+1<cs.size)(cP:i0<=x.n+1)(hR:eM T x.n x.aW x.op i0 JI=R)(EI:cu≠mb/\¬(lo<=cu/\cu<hi)/\cu≠0/\cu≠1):
 Calls prog 42 #[.agg #[.slice (some ⟨mb,0,none⟩) ms.length c,.int .i64 (u0:Int),.int .i64 (G2:Int)],.agg #[.string x.s,.int .i64 x.aB,.int .i32 x.ah,.int .i32 x.bh,.bool x.op],.pointer (some ⟨cu,co,none⟩)] w fun e w'=>∃(v:Value) (l:List (Ev×Nat)),e=.returned v/\mA w' w.heap.size v x (2*G2) l/\l.map (·.1)=R.1/\aq w' cu (nu cs co (x.fr R.2.1) R.2.2) ty/\aa (fun i=>i=cu) w w':=by
 have HM:=ab hM;have pC:=ab gQ;have HQ:=ab hq;have HT:=ab hT;have oH:=ab kh;have HC:=ab hc;have HR0:=ab hR;have fa:=hc.lt;obtain⟨ie,mK,Gs,kt,AD⟩:=Bo Tryz.VE;clear hM gQ hq hT kh hc hR;go_in;go_wp2_with fail;have B3:Hid (aq ((w.alloc (.cells #[.slice (some ⟨mb,0,none⟩) ms.length c,.int .i64 (u0:Int),.int .i64 (G2:Int)] 73)).alloc (.cells #[.string x.s,.int .i64 x.aB,.int .i32 x.ah,.int .i32 x.bh,.bool x.op] 105)) w.heap.size #[.slice (some ⟨mb,0,none⟩) ms.length c,.int .i64 (u0:Int),.int .i64 (G2:Int)] 73):=(aq.new w _ _).alloc _
 have B4:Hid (aq ((w.alloc (.cells #[.slice (some ⟨mb,0,none⟩) ms.length c,.int .i64 (u0:Int),.int .i64 (G2:Int)] 73)).alloc (.cells #[.string x.s,.int .i64 x.aB,.int .i32 x.ah,.int .i32 x.bh,.bool x.op] 105)) (w.heap.size+1) #[.string x.s,.int .i64 x.aB,.int .i32 x.ah,.int .i32 x.bh,.bool x.op] 105):=by
  have:=aq.new (w.alloc (.cells #[.slice (some ⟨mb,0,none⟩) ms.length c,.int .i64 (u0:Int),.int .i64 (G2:Int)] 73)) #[.string x.s,.int .i64 x.aB,.int .i32 x.ah,.int .i32 x.bh,.bool x.op] 105;rw[fF]at this;exact this
 have K1:Hid (aa af w ((w.alloc (.cells #[.slice (some ⟨mb,0,none⟩) ms.length c,.int .i64 (u0:Int),.int .i64 (G2:Int)] 73)).alloc (.cells #[.string x.s,.int .i64 x.aB,.int .i32 x.ah,.int .i32 x.bh,.bool x.op] 105))):=((aa.refl af w).alloc _).alloc _;have cR:((w.alloc (.cells #[.slice (some ⟨mb,0,none⟩) ms.length c,.int .i64 (u0:Int),.int .i64 (G2:Int)] 73)).alloc (.cells #[.string x.s,.int .i64 x.aB,.int .i32 x.ah,.int .i32 x.bh,.bool x.op] 105)).heap.size=w.heap.size+1+1:=by simp
 generalize((w.alloc (.cells #[.slice (some ⟨mb,0,none⟩) ms.length c,.int .i64 (u0:Int),.int .i64 (G2:Int)] 73)).alloc (.cells #[.string x.s,.int .i64 x.aB,.int .i32 x.ah,.int .i32 x.bh,.bool x.op] 105))=w1 at*
 have F:=ab (ac2 (st:=(u0:Int)) (G:=(G2:Int)) (HM.out.kept K1.out) pC.out HQ.out dh hs IM);refine(F.out).mono ?_;rintro e w2 ⟨g,wf,wd,rfl,qx,E_,hO,k2⟩
 have dr:Hid (xM w2 w2 g w2.heap.size cu co cs ty wf T R (2*G2) i0 JI (.slice none 0 0) []):=by
  have hk:=K1.out.trans k2;have ex:g.x=x:=qx.2.1;refine⟨by rw[ex];exact cP,⟨⟨0,wd,hO,by rw[E_.bg.zero];exact Am _⟩,mA.nil _ _ _ _,aa.refl _ _⟩,?_,?_,Am _⟩
  ·rw[ex];exact HC.out.kept hk (fun h=>h)
  ·rw[ex,HR0.out];exact⟨rfl,rfl⟩
 have mD:=ab qx;have kZ:=ab E_;have NV:=ab hO.at_.below;have B32:=ab (B3.out.kept k2 (fun h=>h));have B42:=ab (B4.out.kept k2 (fun h=>h));have K2:=ab (K1.out.trans k2);have aju:=k2.size;have egs:g.x=x:=qx.2.1;have egm:g.ms=ms:=qx.1;have lF:Hid (g.st=(u0:Int)):=qx.2.2.1;have Sm:Hid (g.G=(G2:Int)):=qx.2.2.2.1;have apy:w.heap.size+1+1<=g.ob/\w.heap.size+1+1<=g.WB:=by rw[<-cR];exact⟨qx.2.2.2.2.2.2.2.1,qx.2.2.2.2.2.2.2.2.1⟩
 have J1:Hid ((cu≠g.ob/\cu≠g.mb/\¬(g.lo<=cu/\cu<g.hi))/\(cu≠g.cK/\cu≠g.fh/\cu≠g.rh)/\cu≠g.FB/\cu≠g.WB):=by
  obtain⟨e1,e2,e3,e4,e5,e6,e7,e8,e9,ve,sF,yh,DR,DS,DT⟩:=qx;rw[e5,ve,sF];exact⟨⟨by omega,EI.1,EI.2.1⟩,⟨by omega,by omega,by omega⟩,by omega,by omega⟩
 clear qx E_ hO k2 F B3 B4;subst egs egm;go_wp2_with fail;go_loopg [7] (g.x.n+1-i0) (fun kk v wr=>∃(i:Nat) (told:Int) (l:List (Ev×Nat)),kk=g.x.n+1-i/\Hid (xM w2 wr g w2.heap.size cu co cs ty wf T R (2*G2) i told v l))
 case atStart=>exact⟨i0,JI,[],rfl,dr⟩
 case round=>
  obtain⟨i,told,l,eT,HI⟩:=hrel;clear dr;have cC:wr.cell? ⟨cu,co,none⟩=some (.int .i64 (g.x.fr i)):=(HI.out.wN.cell co).trans (OV EJ _ _);have b4:=B42.out.kept HI.out.pt.kept (by show¬(w.heap.size+1=g.ob\/w.heap.size+1=g.WB\/w.heap.size+1=cu);omega);have b3:=B32.out.kept HI.out.pt.kept (by show¬(w.heap.size=g.ob\/w.heap.size=g.WB\/w.heap.size=cu);omega);have t0:wr.cell? ⟨w.heap.size+1,0,none⟩=some (.string g.x.s):=b4.cell 0;have t1:wr.cell? ⟨w.heap.size+1,1,none⟩=some (.int .i64 g.x.aB):=b4.cell 1;have m1:wr.cell? ⟨w.heap.size,1,none⟩=some (.int .i64 (u0:Int)):=b3.cell 1;have uH:=ab b3;have i_:=ab b4;clear b3 b4;obtain⟨ao,cv,hv⟩:=cA HI.out.pt.cS.row;subst hv;by_cases dR:i<=g.x.n
  ·have Pz:=iP g.x.s i;rw[CX.Iz dR]at cC;have oe:g.x.aW i=g.x.aB+(bd g.x.s i:Int):=rfl;have hle:g.x.aW i<=g.x.aB+(g.x.s.size:Int):=(by omega);have oo:g.x.aW i-g.x.aB=(bd g.x.s i:Int):=(by omega);have HBD:=ab oe;clear oe;go_wp2_with fail;go_big_quiet (fail);have YC:=ab (HI.out.iU ((aa.refl af wr).drewN nq));have X5:Hid (aq (wr.drewN nq) w.heap.size #[.slice (some ⟨mb,0,none⟩) g.ms.length c,.int .i64 (u0:Int),.int .i64 (G2:Int)] 73):=uH.out;have X8:Hid (aq (wr.drewN nq) (w.heap.size+1) #[.string g.x.s,.int .i64 g.x.aB,.int .i32 g.x.ah,.int .i32 g.x.bh,.bool g.x.op] 105):=i_.out;have cCa:(wr.drewN nq).cell? ⟨cu,co,none⟩=some (.int .i64 (g.x.aW i)):=cC;have t1a:(wr.drewN nq).cell? ⟨w.heap.size+1,1,none⟩=some (.int .i64 g.x.aB):=t1;have m1a:(wr.drewN nq).cell? ⟨w.heap.size,1,none⟩=some (.int .i64 (u0:Int)):=m1;generalize wr.drewN nq=wa at*;clear HI uH i_ cC t0 t1 m1;go_wp2_with fail;go_big_quiet (fail);have tC:=ab (YC.out.iU ((aa.refl af wa).drewN nq));have X6:Hid (aq (wa.drewN nq) w.heap.size #[.slice (some ⟨mb,0,none⟩) g.ms.length c,.int .i64 (u0:Int),.int .i64 (G2:Int)] 73):=X5.out;have NU:Hid (aq (wa.drewN nq) (w.heap.size+1) #[.string g.x.s,.int .i64 g.x.aB,.int .i32 g.x.ah,.int .i32 g.x.bh,.bool g.x.op] 105):=X8.out;have m1b:(wa.drewN nq).cell? ⟨w.heap.size,1,none⟩=some (.int .i64 (u0:Int)):=m1a;generalize wa.drewN nq=wb at*;clear YC X5 X8 cCa t1a m1a;obtain⟨ak,wd,hO,oe⟩:=tC.out.pt.out;have F:=Tu kZ.out hO (u:=u0) rM dR oe;have HR:=ab (HT.out i dR);have qe:=ab hO;have CH:=ab oe;clear hO oe
   cases IJ:T i with
   |none=>
    rw[M_ pC.out g.x rM dR (List.replicate (2*G2) (-1)),HR.out,IJ]at F;simp only[Do]at F;have F:=ab F;have Ol:=ab IJ;clear IJ;go_wp2_with fail;refine(F.out).mono ?_;rintro e w5 ⟨rfl,u7,wi,o5,gy,k5⟩;have uJ:Hid (xM w2 w5 g w2.heap.size cu co cs ty wf T R (2*G2) i told (.slice ao l.length cv) l):=⟨tC.out.xl,tC.out.pt.Wn k5 NV.out ⟨u7,wi,o5,gy⟩,tC.out.wN.kept k5 (by have:=J1.out;omega),tC.out.rest,tC.out.bT⟩;have JR:=ab (NU.out.kept k5 (by show¬(w.heap.size+1=g.ob\/w.heap.size+1=g.WB);omega));have xZ:=ab o5.at_.rk.jK;clear o5 gy k5 F tC X6 NU m1b qe CH HR;go_wp2_with fail
    have PS:Hid (∀W,aa af w5 W->XP cu co (w.heap.size+1) (g.x.aW i) g.x.s W):=fun W k=>by
     have a1:=((uJ.out.wN.kept k (fun h=>h)).cell co).trans (OV EJ _ _);rw[CX.Iz dR]at a1;exact⟨a1,(JR.out.kept k (fun h=>h)).cell 0⟩
    have aj:=PS.out w5.drew (aa.refl af w5).drew;refine jW (gW (S:=XP cu co (w.heap.size+1) (g.x.aW i) g.x.s) 11 (by kernel_rfl) rfl rfl rfl (by kernel_rfl) (by kernel_rfl) ?_);refine ai 0 39 (.pointer (some ⟨cu,co,none⟩)) aj ?_;refine ai 1 40 (.pointer (some ⟨cu,co,none⟩)) aj ?_;refine ai 2 41 (.pointer (some ⟨cu,co,none⟩)) aj ?_;refine ai 3 42 (.int .i64 (g.x.aW i)) aj ?_;refine ai 4 43 (.pointer (some ⟨w.heap.size+1,0,none⟩)) aj ?_;refine ai 5 44 (.string g.x.s) aj ?_;refine ai 6 45 (.int .i64 (bd g.x.s i:Int)) aj ?_;simp only[Act.put,Aa,Ad,Ac];refine bN 7 fun K hK=>?_
    have F2:=afe w5.drew g.x.s i dR hs (xZ.out.iU (aa.refl af w5).drew);obtain⟨pq,pQ⟩:∃pq,pq=(zU g.x.s (i+1):Int)-(bd g.x.s i:Int):=⟨_,rfl⟩
    rw[<-pQ]at F2;have yp:g.x.aW i+pq=g.x.fr (i+1):=by unfold CX.aW CX.fr;omega
    have EU:=aa4 dR;have rO:IntKind.i64.wrap (g.x.fr (i+1))=g.x.fr (i+1):=by rw[Cv];unfold CX.fr;omega
    have F2:=ab F2;clear pQ;go_simp;refine(F2.out).mono ?_;rintro e w6 ⟨rfl,k6⟩;dsimp only;have K6:Hid (aa af w5 w6):=(aa.refl af w5).drew.trans k6;refine hK.out _ _ (PS.out _ K6.out) (fun _=>?_);clear hK K k6 F2;refine bN 8 fun K hK=>?_
    go_simp;refine hK.out _ _ (PS.out _ K6.out) (fun _=>?_);clear hK K;refine bN 9 fun K hK=>?_
    go_simp;refine hK.out _ _ (PS.out _ K6.out) (fun _=>?_);clear hK K;refine bN 10 fun K hK=>?_
    go_simp;refine hK.out _ _ (PS.out _ K6.out) (fun _=>?_);clear hK K;refine At (by kernel_rfl) ?_ _;unfold eJ;simp only[Al,Ag,Ai];have IN:=uJ.out.wN.kept K6.out (fun h=>h);have x6:w6.cell? ⟨cu,co,none⟩=some (.int .i64 (g.x.fr i)):=(IN.cell co).trans (OV EJ _ _);have y6:=IN.frozen co
    have ax:Hid (xM w2 (w6.setCell ⟨cu,co,none⟩ (.int .i64 (g.x.fr (i+1)))) g w2.heap.size cu co cs ty wf T R (2*G2) (i+1) told (.slice ao l.length cv) l):=by
     have k:aa (fun i=>i=cu) w6 (w6.setCell ⟨cu,co,none⟩ (.int .i64 (g.x.fr (i+1)))):=(aa.refl (fun i=>i=cu) w6).setCell (p:=⟨cu,co,none⟩) (Or.inl rfl) _;refine⟨by omega,((uJ.out.pt.iU K6.out).one k J1.out EI.2.2 (by omega)).later (Nat.le_succ _),?_,?_,Nat.le_succ_of_le uJ.out.bT⟩
     ·have:=IN.setCell co (.int .i64 (g.x.fr (i+1)));rw[Is]at this;exact this
     ·rw[<-Iv dR Ol.out];exact uJ.out.rest
    clear IN PS aj K6 uJ JR xZ;go_simp;refine jw ?_;go_wp2_with fail;go_roundg (g.x.n+1-(i+1))
    case measure=>omega
    case rel=>exact⟨i+1,told,l,rfl,ax⟩
   |some v=>
    obtain⟨j,jC⟩:=v;rw[IJ]at HR;rw[M_ pC.out g.x rM dR (List.replicate (2*G2) (-1)),HR.out]at F;simp only[E8]at F;have F:=ab F;have Ol:=ab IJ;clear IJ;go_wp2_with fail;refine(F.out).mono ?_;rintro e w5 ⟨rfl,u7,wi,o5,gy,k5⟩;have xU:=ab (tC.out.pt.Wn k5 NV.out ⟨u7,wi,o5,gy⟩);have Yl:=ab (tC.out.wN.kept k5 (by have:=J1.out;omega));have JR:=ab (NU.out.kept k5 (by show¬(w.heap.size+1=g.ob\/w.heap.size+1=g.WB);omega));have Hz:=ab tC.out.rest;have hlf:=tC.out.bT;have F2:=ab (acJ kZ.out o5 dR gy lF.out rM Sm.out IE HR.out);have Qm:w2.heap.size<=w5.heap.size:=xU.out.kept.size;clear o5 gy k5 F tC X6 NU m1b qe CH;go_wp2_with fail;refine(F2.out).mono ?_;rintro e w6 ⟨hA,hB,af9,wd6,o6,hb6,k6⟩;have bM:=BZ pC.out g.x rM dR _ j jC HR.out;have mg:j<=g.x.n:=bM.2.1;have cQ:=bM.1;have Kn:=ab (xU.out.Wn k6 NV.out ⟨af9,wd6,o6,hb6⟩);have CJ:=ab (Yl.out.kept k6 (by have:=J1.out;omega));have RR:=ab (JR.out.kept k6 (by show¬(w.heap.size+1=g.ob\/w.heap.size+1=g.WB);omega));have zv:=ab o6.at_.rk.jK;have Vm:=k6.size;have apq:=iP g.x.s j;have Yh:Hid (g.x.aW j=g.x.aB+(bd g.x.s j:Int)):=(rfl:_=_);have hpj:g.x.aW j-g.x.aB=(bd g.x.s j:Int):=by have:=Yh.out;omega
    clear bM o6 hb6 k6 F2 xU Yl JR
    cases pN:(g.x.op&&decide (g.x.n<=j))with
    |true=>
     have he:=hB pN;subst he
     have ax:Hid (mA w6 w.heap.size (.slice ao l.length cv) g.x (2*G2) l/\l.map (·.1)=R.1/\aq w6 cu (nu cs co (g.x.fr R.2.1) R.2.2) ty/\aa (fun i=>i=cu) w w6):=by
      have dY:g.x.op=true/\g.x.n<=j:=(by simpa using pN);have hr:=Hz.out;rw[dY.1,aaO dR Ol.out dY.2,Ei]at hr;have he:=Kn.out.cS;refine⟨⟨xy he.row (by omega),fun p hp=>⟨by have:=(he.fE p hp).1;omega,(he.fE p hp).2⟩⟩,hr.1,?_,(K2.out.mono (S':=fun i=>i=cu) (fun _ h=>h.elim)).bV Kn.out.kept (fun i hi e=>by omega)⟩;rw[<-hr.2];exact CJ.out
     clear hA hB pN Kn CJ RR zv Hz;go_wp2_with fail;go_ret;exact⟨_,l,rfl,ax.out.1.kept ((aa.refl af w6).alloc _) (fun _ _ h=>h),ax.out.2.1,ax.out.2.2.1.kept ((aa.refl af w6).alloc _) (fun h=>h),ax.out.2.2.2.alloc _⟩
    |false=>
     obtain⟨gb,he,kO,z8⟩:=hA pN;subst he;have xQ:=ab z8;have Kr:=ab pN;clear hA hB pN z8;go_wp2_with fail;have lu:aa af w6 (w6.alloc (.cells #[.int .i64 (g.x.aW i),.int .i64 (g.x.aW j),.slice (some ⟨gb,0,none⟩) (2*G2) (2*G2),.string (g.x.s.extract (bd g.x.s i) (bd g.x.s j))] 46)):=(aa.refl af w6).alloc _;have YS:=ab (Kn.out.iU lu);have JZ:=ab (CJ.out.kept lu (fun h=>h));have RT:=ab (RR.out.kept lu (fun h=>h));have Yd:=ab (xQ.out.kept lu (fun h=>h));have sr:=ab (zv.out.iU lu);have JQ:Hid (aq (w6.alloc (.cells #[.int .i64 (g.x.aW i),.int .i64 (g.x.aW j),.slice (some ⟨gb,0,none⟩) (2*G2) (2*G2),.string (g.x.s.extract (bd g.x.s i) (bd g.x.s j))] 46)) w6.heap.size #[.int .i64 (g.x.aW i),.int .i64 (g.x.aW j),.slice (some ⟨gb,0,none⟩) (2*G2) (2*G2),.string (g.x.s.extract (bd g.x.s i) (bd g.x.s j))] 46):=aq.new w6 _ _;have I6:w6.heap.size<(w6.alloc (.cells #[.int .i64 (g.x.aW i),.int .i64 (g.x.aW j),.slice (some ⟨gb,0,none⟩) (2*G2) (2*G2),.string (g.x.s.extract (bd g.x.s i) (bd g.x.s j))] 46)).heap.size:=(by simp);generalize w6.alloc (.cells #[.int .i64 (g.x.aW i),.int .i64 (g.x.aW j),.slice (some ⟨gb,0,none⟩) (2*G2) (2*G2),.string (g.x.s.extract (bd g.x.s i) (bd g.x.s j))] 46)=w7 at*;obtain⟨oR,abu⟩:∃oR,oR=w6.heap.size:=⟨_,rfl⟩
     rw[<-abu]at JQ I6 Vm⊢;clear abu lu Kn CJ RR xQ zv;have PS:Hid (∀W,aa af w7 W->XQ oR (w.heap.size+1) (g.x.aW i) (g.x.aW j) g.x.s g.x.aB W):=(fun W k=>⟨⟨(JQ.out.kept k (fun h=>h)).cell 0,(JQ.out.kept k (fun h=>h)).cell 1⟩,(RT.out.kept k (fun h=>h)).cell 0,(RT.out.kept k (fun h=>h)).cell 1⟩);have aj:=PS.out w7.drew (aa.refl af w7).drew;refine jW (gW (S:=XQ oR (w.heap.size+1) (g.x.aW i) (g.x.aW j) g.x.s g.x.aB) 13 (by kernel_rfl) rfl rfl rfl (by kernel_rfl) (by kernel_rfl) ?_);refine ai 0 58 (.pointer (some ⟨cu,co,none⟩)) aj ?_;refine ai 1 59 (.pointer (some ⟨oR,0,none⟩)) aj ?_;refine ai 2 60 (.int .i64 (g.x.aW i)) aj ?_;refine ai 3 61 (.pointer (some ⟨oR,1,none⟩)) aj ?_;refine ai 4 62 (.int .i64 (g.x.aW j)) aj ?_;refine ai 5 63 (.pointer (some ⟨w.heap.size+1,0,none⟩)) aj ?_;refine ai 6 64 (.string g.x.s) aj ?_;refine ai 7 65 (.pointer (some ⟨oR,1,none⟩)) aj ?_;refine ai 8 66 (.int .i64 (g.x.aW j)) aj ?_;refine ai 9 67 (.pointer (some ⟨w.heap.size+1,1,none⟩)) aj ?_;refine ai 10 68 (.int .i64 g.x.aB) aj ?_;refine pj 11 69 (.int .i64 (bd g.x.s j:Int)) rfl rfl (by kernel_rfl) (by kernel_rfl) (by kernel_rfl) (fun _ _ _ h=>h) (Or.inl ⟨by rfl,fun W eP=>by obtain⟨⟨s0,s1⟩,s2,s3⟩:=eP;go_simp;rw[Cv];omega⟩) aj ?_;simp only[Act.put,Aa,Ad,Ac];refine bN 12 fun K hK=>?_
     have F2:=afe w7.drew g.x.s j mg hs (sr.out.iU (aa.refl af w7).drew);obtain⟨pq,pQ⟩:∃pq,pq=(zU g.x.s (j+1):Int)-(bd g.x.s j:Int):=⟨_,rfl⟩
     rw[<-pQ]at F2;have yp:g.x.aW j+pq=g.x.fr (j+1):=by unfold CX.aW CX.fr;omega
     have EU:=aa4 mg;have rO:0<=pq/\pq<=4:=(by omega);have HAD:=ab yp;have F2:=ab F2;clear pQ yp EU;go_simp;refine(F2.out).mono ?_;rintro e w8 ⟨rfl,k8⟩;dsimp only;have K8:Hid (aa af w7 w8):=(aa.refl af w7).drew.trans k8;refine hK.out _ _ (PS.out _ K8.out) (fun _=>?_);clear hK K k8 F2;refine At (by kernel_rfl) ?_ _;unfold eJ;simp only[Al,Ag,Ai];have F3:=adX w8 cu co cs ty (g.x.fr i) told (g.x.aW i) (g.x.aW j) pq (JZ.out.kept K8.out (fun h=>h)) EJ (by have:=Yh.out;omega) rO;obtain⟨rb,i',AQ,pJ,hi',abB,abC⟩:=amk (told:=told) oH.out dR mg cQ Ol.out Kr.out HAD.out;rw[AQ,pJ]at F3;have F3:=ab F3;have YT:=ab (YS.out.iU K8.out);have Ye:=ab (Yd.out.kept K8.out (fun h=>h));have XG:=ab (JQ.out.kept K8.out (fun h=>h));have hs8:=K8.out.size;have lD:=ab abB;have ja:=ab abC;clear PS aj AQ pJ abB abC YS JZ RT Yd sr JQ;go_simp;refine(F3.out).mono ?_;rintro e w9 ⟨rfl,k9,hc9⟩;dsimp only;refine jw ?_;have CS:=ab ((YT.out.one k9 J1.out EI.2.2 (by omega)).later (MB:=i') (by omega));have N4:=ab hc9;have Yf:=ab (Ye.out.kept k9 (by omega));have aft:=k9.cell (p:=⟨oR,0,none⟩) (by show oR<_;omega) (by show¬oR=cu;omega);have BX:=XG.out.kept k9 (by omega);have x0:w9.cell? ⟨oR,0,none⟩=some (.int .i64 (g.x.aW i)):=BX.cell 0;have x1:w9.cell? ⟨oR,1,none⟩=some (.int .i64 (g.x.aW j)):=BX.cell 1;have x2:w9.cell? ⟨oR,2,none⟩=some (.slice (some ⟨gb,0,none⟩) (2*G2) (2*G2)):=BX.cell 2;have x3:w9.cell? ⟨oR,3,none⟩=some (.string (g.x.s.extract (bd g.x.s i) (bd g.x.s j))):=BX.cell 3;have hs9:=k9.size;clear aft BX k9 hc9 F3 YT Ye XG
     cases rb with
     |false=>
      have ax:Hid (xM w2 w9 g w2.heap.size cu co cs ty wf T R (2*G2) i' (g.x.aW j) (.slice ao l.length cv) l):=⟨hi'.2.1,CS.out,N4.out,by rw[<-ja.out rfl];exact Hz.out,by omega⟩;clear CS N4 lD ja Hz;go_wp2_with fail;go_roundg (g.x.n+1-i')
      case measure=>omega
      case rel=>exact⟨i',g.x.aW j,l,rfl,ax⟩
     |true=>
      have FN:l.length<=10000000:=by have:=Nm g.x.s;unfold CX.n at dR;omega
      have fi:=ab CS.out.cS.row;go_wp2_with (at_builtin;refine Ao _ rfl _ _ 24 rfl w2.heap.size 46 ie _ 4 56 underlying24 mK Gs kt AD rfl (by decide) _ _ _ rfl (fi.out.alloc _) ⟨w9.heap.size,0,none⟩ 1 1 (wP g.x (2*G2) ⟨i,j,jC⟩ gb) rfl rfl ?c1 ?c2 ?c3 ?c4 ?c5 ?_)
      case c1=>
       intro q u hq;simpa[wP]using hq
      case c2=>
       intro u hu;unfold wP at hu;simp at hu;rcases hu with rfl|rfl|rfl|rfl<;>rfl
      case c3=>unfold maxLen;omega
      case c4=>omega
      case c5=>omega
      intro v' Hj bG bY dX cx;obtain⟨jd,c',rfl⟩:=cA bG
      have ax:Hid (xM w2 Hj g w2.heap.size cu co cs ty wf T R (2*G2) i' (g.x.aW j) (.slice jd (l.length+1) c') (l++[(⟨i,j,jC⟩,gb)])):=by
       obtain⟨hp,kp⟩:=CS.out.push (p:=(⟨i,j,jC⟩,gb)) NV.out rfl ((aa.refl af w9).alloc _) ⟨by show w2.heap.size<=gb;omega,Yf.out⟩ bG bY;have hr:=Hz.out;rw[lD.out (by first|rfl|trivial)]at hr;refine⟨hi'.2.1,hp,N4.out.kept kp (by omega),⟨?_,hr.2⟩,by simp;omega⟩;rw[<-hr.1];simp
      clear bG bY dX cx CS N4 lD ja Hz fi Yf;go_wp2_with fail;go_roundg (g.x.n+1-i')
      case measure=>omega
      case rel=>exact⟨i',g.x.aW j,l++[(⟨i,j,jC⟩,gb)],rfl,ax⟩
  ·have aiS:i=g.x.n+1:=by have:=HI.out.xl;omega
   have hfe:g.x.fr i=g.x.aB+((g.x.s.size+1:Nat):Int):=by unfold CX.fr;rw[TV (by unfold CX.n at aiS;omega)]
   rw[hfe]at cC;have hle:¬g.x.aB+((g.x.s.size+1:Nat):Int)<=g.x.aB+(g.x.s.size:Int):=by omega
   have ax:Hid (mA wr w.heap.size (.slice ao l.length cv) g.x (2*G2) l/\l.map (·.1)=R.1/\aq wr cu (nu cs co (g.x.fr R.2.1) R.2.2) ty/\aa (fun i=>i=cu) w wr):=by
    have hr:=HI.out.rest;rw[Li (by omega),Ei]at hr;have he:=HI.out.pt.cS;refine⟨⟨xy he.row (by omega),fun p hp=>⟨by have:=(he.fE p hp).1;omega,(he.fE p hp).2⟩⟩,hr.1,by rw[<-hr.2];exact HI.out.wN,(K2.out.mono (S':=fun i=>i=cu) (fun _ h=>h.elim)).bV HI.out.pt.kept (fun i hi e=>by omega)⟩
   clear HI uH i_;go_wp2_with fail;go_big_quiet (fail);go_wp2_with fail;go_ret;exact⟨_,l,rfl,ax.out.1.kept ((aa.refl af wr).drewN nq) (fun _ _ h=>h),ax.out.2.1,ax.out.2.2.1,ax.out.2.2.2.drewN nq⟩
theorem acZ(w:World):Calls prog 41 #[] w fun e w'=>e=.returned (.agg #[.int .i64 0,.int .i64 (-1)])/\aa af w w':=by
 go_in
 go_wp2_with fail
 exact Bj (v:=.agg #[.int .i64 0,.int .i64 (-1)]) (by simp[results,results41,go_sem]) rfl ⟨rfl,(aa.refl af w).alloc _⟩
theorem mA.aoK(h:mA w base v (aM s) N2 l):sm w base v s N2 l:=by
 have e:∀p:Ev×Nat,wP (aM s) N2 p.1 p.2=zP s N2 p.1 p.2:=fun p=>by
  unfold wP zP CX.aW aM;simp
 have e2:yk (aM s) N2 l=Ix s N2 l:=by
  unfold yk Ix;congr 1;funext p;exact e p
 exact⟨by rw[<-e2];exact h.row,h.fE⟩
theorem aaP(kh:nO T (aF s).length):(eM T (aM s).n (aM s).aW (aM s).op 0 (-1)).1=Lj T (aF s).length 0 none:=by
 have hb:∀i,(aM s).aW i=(bd s i:Int):=fun i=>by unfold CX.aW aM;simp
 exact ahy (b:=(aM s).aW) (fun i j hi hj h=>Z3 (x:=aM s) hi hj h) (fun i=>by rw[hb];omega) _ 0 none (fun p hp=>by cases hp) kh
theorem afs(hM:jb w lo hi mb c vs ms)(gQ:eR ms)(hq:iz (G2:Int) ms)(dh:ms.length<=4001)(hs:s.size<=10000000)(rM:u0<ms.length)(IE:G2<=100000)
 (hT:∀i,i<=(aF s).length->cM ms (ig s) (u0:Int) i (List.replicate (2*G2) (-1)) (T i))(kh:nO T (aF s).length):
 Calls prog 22 #[.agg #[.slice (some ⟨mb,0,none⟩) ms.length c,.int .i64 (u0:Int),.int .i64 (G2:Int)],.string s] w fun e w'=>∃(v:Value) (l:List (Ev×Nat)),e=.returned v/\sm w' w.heap.size v s (2*G2) l/\l.map (·.1)=Lj T (aF s).length 0 none/\aa af w w':=by
 have hTl:=hM.jK.lt;have hMl:=hM.ic.lt;have hHl:=hM.le;have F:=ab fun(W:World)=>acZ W
 have F2:=ab fun(W:World) (k:aa af w W) (cu:Nat) (hc:aq W cu #[.int .i64 0,.int .i64 (-1)] 101) (fa:w.heap.size<=cu)=>XR (x:=aM s) (co:=0) (cs:=#[.int .i64 0,.int .i64 (-1)]) (i0:=0) (JI:= -1) (hM.kept k) gQ hq dh hs ⟨Cg _,by show(0:Int)<=_;omega⟩ rM IE (fun i hi=>aei gQ s (hT i hi) hi) kh (show aq W cu (nu #[.int .i64 0,.int .i64 (-1)] 0 ((aM s).fr 0) (-1)) 101 by rw[CX.Iz (Am _),show(aM s).aW 0=0 by unfold CX.aW aM;simp[sC]];exact hc) (by simp) (Am _) rfl ⟨by omega,by omega,by omega,by omega⟩
 have Sk:=ab (aaP (s:=s) kh);clear hM gQ hq hT kh;go_in;go_wp2_with fail;refine(F.out _).mono ?_;rintro e w1 ⟨rfl,k1⟩;have hb:=(aq.new w #[.slice (some ⟨mb,0,none⟩) ms.length c,.int .i64 (u0:Int),.int .i64 (G2:Int)] 73).kept k1 (fun h=>h);have x0:w1.cell? ⟨w.heap.size,0,none⟩=some (.slice (some ⟨mb,0,none⟩) ms.length c):=hb.cell 0;have x1:w1.cell? ⟨w.heap.size,1,none⟩=some (.int .i64 (u0:Int)):=hb.cell 1;have x2:w1.cell? ⟨w.heap.size,2,none⟩=some (.int .i64 (G2:Int)):=hb.cell 2;have gz:=hb.lt;have K1:Hid (aa af w w1):=((aa.refl af w).alloc _).trans k1;clear hb k1;go_wp2_with fail;have K2:Hid (aa af w (w1.alloc (.cells #[.int .i64 0,.int .i64 (-1)] 101))):=K1.out.alloc _;have FF:=ab (F2.out _ K2.out w1.heap.size (aq.new w1 _ _) K1.out.size);refine(FF.out).mono ?_;rintro e w3 ⟨v,l,rfl,Lx,PV,_,k3⟩;have hE:=Lx.aoK;have hl:l.map (·.1)=Lj T (aF s).length 0 none:=PV.trans Sk.out;have cR:=K1.out.size
 have ax:Hid (sm w3 w.heap.size v s (2*G2) l/\l.map (·.1)=Lj T (aF s).length 0 none/\aa af w w3):=by
  have e:(w1.alloc (.cells #[.int .i64 0,.int .i64 (-1)] 101)).heap.size=w1.heap.size+1:=fF _ _;rw[e]at hE;exact⟨⟨xy hE.row (by omega),fun p hp=>⟨by have:=(hE.fE p hp).1;omega,(hE.fE p hp).2⟩⟩,hl,K2.out.bV k3 (fun i hi e=>by omega)⟩
 clear hE hl k3 FF F2;go_wp2_with fail;go_ret;exact⟨v,l,rfl,ax.out.1,ax.out.2.1,ax.out.2.2⟩
def aao(rs ps:List Int):RG:={b:=0,ao:=none,br:=0,cr:=0,bp:=0,cp:=0,bf:=0,bn:=0,rs:=rs,ps:=ps}
def RG.mH(g:RG):RG:=aao g.rs g.ps
theorem adD(g:RG):∀m,mw g m=mw g.mH m
 |0=>rfl
 |m+1=>by
  funext st
  show(if ay g st= -1\/aG pR (ay g st)=true then st else mw g m (fT g st))=_
  rw[adD g m];rfl
theorem adG(g:RG)(first:Nat):∀m,ly g first m=ly g.mH first m
 |0=>rfl
 |m+1=>by
  funext st
  show(if st.next<first+8/\aG oz (ay g st)=true then ly g first m {st with next:=st.next+1}else st)=_
  rw[adG g first m];rfl
theorem alT(g:RG):rZ g=rZ g.mH:=by
 funext st
 unfold rZ;rw[adD];rfl
theorem al2(g:RG):pg g=pg g.mH:=by
 funext st
 unfold pg;rw[adG];rfl
theorem ady(g:RG):ix g=ix g.mH:=by
 funext st
 unfold ix;rw[al2];rfl
theorem adt(g:RG)(aE:RS->RS×PT):dt g aE=dt g.mH aE:=by
 funext st
 unfold dt vU;rw[ady,alT];rfl
theorem adR(g:RG)(aE:RS->RS×PT):∀m,jq g aE m=jq g.mH aE m
 |0=>rfl
 |m+1=>by
  funext st aC
  show(if ay g st= -1\/aG uj (ay g st)=true then(st,aC)else jq g aE m (h_ g (dt g aE st).2 (dt g aE st).1).1 (aC++[(h_ g (dt g aE st).2 (dt g aE st).1).2]))=_
  rw[adR g aE m,adt];rfl
theorem Q6(g:RG)(aE:RS->RS×PT):eD g aE=eD g.mH aE:=by
 funext st
 unfold eD;rw[adR];rfl
theorem adq(g:RG)(aE:RS->RS×PT):∀m,iw g aE m=iw g.mH aE m
 |0=>rfl
 |m+1=>by
  funext st aC
  show(if aG vN (ay g st)then iw g aE m (eD g aE {st with next:=st.next+1}).1 (aC++[(eD g aE {st with next:=st.next+1}).2])else(st,aC))=_
  rw[adq g aE m,Q6];rfl
theorem Wt(g:RG):∀k,aV g k=aV g.mH k
 |0=>rfl
 |k+1=>by
  funext st
  show((iw g (aV g k) (g.rs.length+1) (eD g (aV g k) st).1 [(eD g (aV g k) st).2]).1,PT.node 3 (iw g (aV g k) (g.rs.length+1) (eD g (aV g k) st).1 [(eD g (aV g k) st).2]).2 0 0)=_
  rw[Wt g k,adq,Q6];rfl
theorem aad(g:RG):∀m,rj g m=rj g.mH m
 |0=>rfl
 |m+1=>by
  funext st aC
  show(if ay g st= -1\/aG pR (ay g st)=true then aC else rj g m (fT g st) (aC++iB g st))=_
  rw[aad g m];rfl
theorem ags(g:RG)(bS:Bool->RS->CT):j8 g bS=j8 g.mH bS:=by
 funext fo st
 unfold j8 sE KY;rw[ady,aad];rfl
theorem aaf(g:RG)(aE:RS->RS×PT)(bS:Bool->RS->CT)(fo:Bool):∀m,l_ g aE bS fo m=l_ g.mH aE bS fo m
 |0=>rfl
 |m+1=>by
  funext st aC
  show(if ay g st= -1\/aG uj (ay g st)=true then aC else l_ g aE bS fo m (h_ g (dt g aE st).2 (dt g aE st).1).1 (aC++[ni g (j8 g bS fo st) (dt g aE st).1]))=_
  rw[aaf g aE bS fo m,adt,ags];rfl
theorem aae(g:RG)(aE:RS->RS×PT)(bS:Bool->RS->CT):nj g aE bS=nj g.mH aE bS:=by
 funext fo st
 unfold nj;rw[aaf];rfl
theorem aab(g:RG)(aE:RS->RS×PT)(bS:Bool->RS->CT)(fo:Bool):∀m,ll g aE bS fo m=ll g.mH aE bS fo m
 |0=>rfl
 |m+1=>by
  funext st aC
  show(if aG vN (ay g st)then ll g aE bS fo m (eD g aE {st with next:=st.next+1}).1 (aC++[nj g aE bS fo {st with next:=st.next+1}])else aC)=_
  rw[aab g aE bS fo m,Q6,aae];rfl
theorem aaa(g:RG):∀k,dI g k=dI g.mH k
 |0=>rfl
 |k+1=>by
  funext fo st
  show CT.node 4 [] false false 0 0 0 0 false (ll g (aV g k) (dI g k) fo (g.rs.length+1) (eD g (aV g k) st).1 [nj g (aV g k) (dI g k) fo st])=_
  rw[aaa g k,Wt g k,aab,Q6,aae];rfl
theorem amd(g:RG)(st:RS):ee g st=ee g.mH st:=by
 unfold ee;rw[Wt];rfl
theorem agu(g:RG)(st:RS):oS g st=oS g.mH st:=by
 unfold oS;rw[aaa];rfl
def ph(p:ByteArray):RG:=aao ((gJ p (p.size+1) 0).map (·.2)) ((gJ p (p.size+1) 0).map (fun q=>(q.1:Int))++[(p.size:Int)])
theorem ag_{g:RG}(h1:g.rs=(gJ p (p.size+1) 0).map (·.2))(h2:g.ps=(gJ p (p.size+1) 0).map (fun q=>(q.1:Int))++[(p.size:Int)]):g.mH=ph p:=by unfold RG.mH ph;rw[h1,h2]
theorem XB{g:RG}(h1:g.rs=(gJ p (p.size+1) 0).map (·.2))(h2:g.ps=(gJ p (p.size+1) 0).map (fun q=>(q.1:Int))++[(p.size:Int)]):(∀st,ee g st=ee (ph p) st)/\(∀st,oS g st=oS (ph p) st)/\jR g p=jR (ph p) p:=by
 have e:=ag_ h1 h2;have a1:∀st,ee g st=ee (ph p) st:=fun st=>by rw[amd,e]
 refine⟨a1,fun st=>by rw[agu,e],?_⟩;unfold jR;rw[a1]
theorem ana(p:ByteArray):uW (ph p):=fun r hr=>by
 have hr:r∈ (gJ p (p.size+1) 0).map (·.2):=hr;obtain⟨q,hq,rfl⟩:=Bf.1 hr;exact WX p _ _ q hq
def lA(p:ByteArray):CT:=oS (ph p) (dz p)
def gG(p:ByteArray):Nat:=(ee (ph p) (dz p)).1.aQ
def fN(p:ByteArray):Int:=if 300<p.size then 1 else(pick (jR (ph p) p)).1
theorem adY(hs:p.size<=300)(h:fN p=0):(lA p).ok/\(ee (ph p) (dz p)).2.size<=1000/\(lA p).gO (gG p:Int)/\(lA p).lC:=by
 unfold fN at h;rw[if_neg (by omega)]at h;obtain⟨h1,h2⟩:=ahI h;exact⟨aoL _ _ h1,h2,aif _ _,aoQ (ana p) _ h1⟩
end Go.Proofs.YtpdnofhackjfdaaGreatDoor
