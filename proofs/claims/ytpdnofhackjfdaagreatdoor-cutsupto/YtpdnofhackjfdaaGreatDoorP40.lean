/- Package threads -/
import Derived.Test.YtpdnofhackjfdaaGreatDoorP39
set_option linter.all false
set_option maxRecDepth 100000
set_option maxHeartbeats 4000000
namespace Go.Proofs.YtpdnofhackjfdaaGreatDoor
open Go.Proofs.Tryz
open Go.RowKit Go.Maps
variable {mt:Bool} {f:FG} {A G bh mo st u:Int} {ms:List MS} {vs:List Sv} {l:List bF} {b c hi lo mb mp:Nat} {fix au:Nat->Prop} {ev:Value} {w w' w0 wr:World}
theorem aky(n:Nat):madeCells (Value.bool false).cells n=(kJ (List.replicate n false)).toArray:=by
 unfold madeCells kJ;have e:(Value.bool false).cells=#[Value.bool false]:=rfl;rw[e];refine Array.ext (by simp) fun i h1 h2=>?_
 simp[Gd]
def DA(w:World)(lo hi mb c:Nat)(vs:List Sv)(ms:List MS)(st G:Int):Ending->World->Prop:=fun e w'=>∃g:FG,e=.returned (.pointer (some ⟨g.fb,0,none⟩))/\(g.lo=lo/\g.hi=hi/\g.mb=mb/\g.c=c/\g.vs=vs/\g.ms=ms/\g.st=st/\g.G=G)/\iZ w' g/\(w.heap.size<=g.fb/\w.heap.size<=g.sb/\w.heap.size<=g.bb)/\(g.fb≠g.sb/\g.fb≠g.bb/\g.sb≠g.bb)/\aa af w w'
theorem DA.of(hM:jb w lo hi mb c vs ms){fb sb bb:Nat}(k:aa af w w')
 (hF:aq w' fb #[.slice (some ⟨mb,0,none⟩) ms.length c,.int .i64 st,.int .i64 G,.int .i32 0,.int .i32 0,.slice (some ⟨sb,0,none⟩) ms.length ms.length,.slice (some ⟨bb,0,none⟩) ms.length ms.length,.slice none 0 0] 183)
 (hS:aq w' sb (kJ (List.replicate ms.length false)).toArray 4)(hB:aq w' bb (kJ (List.replicate ms.length false)).toArray 4)(h1:w.heap.size<=fb/\w.heap.size<=sb/\w.heap.size<=bb)(h2:fb≠sb/\fb≠bb/\sb≠bb):DA w lo hi mb c vs ms st G (.returned (.pointer (some ⟨fb,0,none⟩))) w':=
 ⟨⟨fb,sb,bb,lo,hi,mb,c,vs,ms,st,G⟩,rfl,⟨rfl,rfl,rfl,rfl,rfl,rfl,rfl,rfl⟩,⟨⟨0,0,.slice none 0 0,_,_,hF,⟨hS,by simp⟩,⟨hB,by simp⟩⟩,hM.kept k⟩,h1,h2,k⟩
theorem ac0(hM:jb w lo hi mb c vs ms)(hn:ms.length<=4001):
 Calls prog 70 #[.agg #[.slice (some ⟨mb,0,none⟩) ms.length c,.int .i64 st,.int .i64 G]] w (DA w lo hi mb c vs ms st G):=by
 have HM:=ab hM;obtain⟨n,AL⟩:∃n,n=ms.length:=⟨_,rfl⟩
 obtain⟨ao,me⟩:∃ao:Option Addr,ao=some ⟨mb,0,none⟩:=⟨_,rfl⟩
 rw[<-AL,<-me];have rJ:n<=4001:=by omega
 have B0:=aq.new w #[.slice ao n c,.int .i64 st,.int .i64 G] 73;have fD:Hid (∀W,aa af (w.alloc (.cells #[.slice ao n c,.int .i64 st,.int .i64 G] 73)) W->su w.heap.size ao n c st G W):=fun W k=>su.of (B0.kept k (fun hx=>hx))
 obtain⟨i0,cP,di,dj,cY⟩:=Bo Tryz.ajL;obtain⟨Z,hZ⟩:∃Z,Z=madeCells (Value.bool false).cells ((n:Int).toNat*i0.size):=⟨_,rfl⟩
 have mk:∀W:World,(Instr.makeSlice 181 (.int .i64 (n:Int)) (.int .i64 (n:Int))).run prog W=.ok (.slice (some ⟨W.heap.size,0,none⟩) n n) (W.alloc (.cells Z 4)):=fun W=>by
  have:=run_makeSlice (P:=prog) W 181 4 i0 (.bool false) underlying181 cP di .i64 .i64 (n:Int) (n:Int) (by omega) (Cg _) (by rw[dj];omega) (by rw[cY];omega) (by omega);rw[<-hZ]at this;simpa using this
 have HZ:Hid (Z=(kJ (List.replicate n false)).toArray):=by show _=_;rw[hZ,dj];simp[aky]
 have ax:Hid (∀sb bb,((sb=w.heap.size+1/\bb=w.heap.size+1+1)\/(sb=w.heap.size+1+1/\bb=w.heap.size+1))->DA w lo hi mb c vs ms st G (.returned (.pointer (some ⟨w.heap.size+1+1+1,0,none⟩))) (((((w.alloc (.cells #[.slice ao n c,.int .i64 st,.int .i64 G] 73)).alloc (.cells Z 4)).alloc (.cells Z 4)).alloc (.cells #[.slice ao n c,.int .i64 st,.int .i64 G,.int .i32 0,.int .i32 0,.slice (some ⟨sb,0,none⟩) n n,.slice (some ⟨bb,0,none⟩) n n,.slice none 0 0] 183)).drew)):=fun sb bb I8=>by
  have k:aa af w (((((w.alloc (.cells #[.slice ao n c,.int .i64 st,.int .i64 G] 73)).alloc (.cells Z 4)).alloc (.cells Z 4)).alloc (.cells #[.slice ao n c,.int .i64 st,.int .i64 G,.int .i32 0,.int .i32 0,.slice (some ⟨sb,0,none⟩) n n,.slice (some ⟨bb,0,none⟩) n n,.slice none 0 0] 183)).drew):=(((((aa.refl af w).alloc _).alloc _).alloc _).alloc _).drew;obtain⟨w1,pO⟩:∃w1,w1=w.alloc (.cells #[.slice ao n c,.int .i64 st,.int .i64 G] 73):=⟨_,rfl⟩
  have s1:w1.heap.size=w.heap.size+1:=by rw[pO];exact fF _ _
  have s2:(w1.alloc (.cells Z 4)).heap.size=w1.heap.size+1:=fF _ _;have s3:((w1.alloc (.cells Z 4)).alloc (.cells Z 4)).heap.size=w1.heap.size+1+1:=by rw[fF,s2]
  rw[<-pO]at k⊢;have b1:aq ((((w1.alloc (.cells Z 4)).alloc (.cells Z 4)).alloc (.cells #[.slice ao n c,.int .i64 st,.int .i64 G,.int .i32 0,.int .i32 0,.slice (some ⟨sb,0,none⟩) n n,.slice (some ⟨bb,0,none⟩) n n,.slice none 0 0] 183)).drew) w1.heap.size Z 4:=((aq.new w1 Z 4).alloc _).alloc _;have b2:aq ((((w1.alloc (.cells Z 4)).alloc (.cells Z 4)).alloc (.cells #[.slice ao n c,.int .i64 st,.int .i64 G,.int .i32 0,.int .i32 0,.slice (some ⟨sb,0,none⟩) n n,.slice (some ⟨bb,0,none⟩) n n,.slice none 0 0] 183)).drew) (w1.alloc (.cells Z 4)).heap.size Z 4:=(aq.new (w1.alloc (.cells Z 4)) Z 4).alloc _;have b3:=aq.new ((w1.alloc (.cells Z 4)).alloc (.cells Z 4)) #[.slice ao n c,.int .i64 st,.int .i64 G,.int .i32 0,.int .i32 0,.slice (some ⟨sb,0,none⟩) n n,.slice (some ⟨bb,0,none⟩) n n,.slice none 0 0] 183;rw[s1]at b1;rw[s2,s1]at b2;rw[s3,s1]at b3;have e1:n=ms.length:=AL;have e2:ao=some ⟨mb,0,none⟩:=me;have LH:=HZ.out;rw[e1]at LH;rcases I8 with⟨rfl,rfl⟩|⟨rfl,rfl⟩
  ·refine DA.of hM k (fb:=w.heap.size+1+1+1) (sb:=w.heap.size+1) (bb:=w.heap.size+1+1) ?_ ?_ ?_ ⟨by omega,by omega,by omega⟩ ⟨by omega,by omega,by omega⟩
   ·rw[<-e1,<-e2];exact b3
   ·rw[<-LH];exact b1
   ·rw[<-LH];exact b2
  ·refine DA.of hM k (fb:=w.heap.size+1+1+1) (sb:=w.heap.size+1+1) (bb:=w.heap.size+1) ?_ ?_ ?_ ⟨by omega,by omega,by omega⟩ ⟨by omega,by omega,by omega⟩
   ·rw[<-e1,<-e2];exact b3
   ·rw[<-LH];exact b2
   ·rw[<-LH];exact b1
 clear B0 hZ cP di dj cY hM hn AL me;go_enter func70,ntmps70;go_wp2_with fail;refine gW (S:=su w.heap.size ao n c st G) 11 (by kernel_rfl) rfl rfl rfl (by kernel_rfl) (by kernel_rfl) ?_;have aj:=fD.out ((w.alloc (.cells #[.slice ao n c,.int .i64 st,.int .i64 G] 73)).drew) (aa.refl _ _).drew;refine ai 0 3 (.agg #[.slice ao n c,.int .i64 st,.int .i64 G]) aj ?_;refine ai 1 4 (.pointer (some ⟨w.heap.size,0,none⟩)) aj ?_;refine ai 2 5 (.slice ao n c) aj ?_;refine ai 3 6 (.int .i64 (n:Int)) aj ?_;refine ai 5 8 (.pointer (some ⟨w.heap.size,0,none⟩)) aj ?_;refine ai 6 9 (.slice ao n c) aj ?_;refine ai 7 10 (.int .i64 (n:Int)) aj ?_;simp only[Act.put,Aa,Ad,Ac];refine Fw (rs:=[4,8]) (by kernel_rfl) (by simp) (Dg rfl (fun K hK=>?_) (Dg rfl (fun K hK=>?_) Fo));all_goals go_simp
 all_goals refine hK.out _ _ (fD.out _ (by repeat first|exact aa.refl _ _|apply aa.alloc|apply aa.drew|apply aa.drewN)) (fun _=>?_)
 all_goals clear hK K
 ·refine bN 8 fun K hK=>?_
  go_simp;refine hK.out _ _ (fD.out _ (by repeat first|exact aa.refl _ _|apply aa.alloc|apply aa.drew|apply aa.drewN)) (fun _=>?_);clear hK K;refine bN 9 fun K hK=>?_
  go_simp;refine hK.out _ _ (fD.out _ (by repeat first|exact aa.refl _ _|apply aa.alloc|apply aa.drew|apply aa.drewN)) (fun _=>?_);clear hK K;refine bN 10 fun K hK=>?_
  go_simp;refine hK.out _ _ (fD.out _ (by repeat first|exact aa.refl _ _|apply aa.alloc|apply aa.drew|apply aa.drewN)) (fun _=>?_);clear hK K;refine At (by kernel_rfl) ?_ _;unfold eJ;simp only[Al,Ag,Ai];go_simp;go_wp2_with fail;go_ret;exact ax.out _ _ (Or.inl ⟨rfl,rfl⟩)
 ·refine bN 4 fun K hK=>?_
  go_simp;refine hK.out _ _ (fD.out _ (by repeat first|exact aa.refl _ _|apply aa.alloc|apply aa.drew|apply aa.drewN)) (fun _=>?_);clear hK K;refine bN 9 fun K hK=>?_
  go_simp;refine hK.out _ _ (fD.out _ (by repeat first|exact aa.refl _ _|apply aa.alloc|apply aa.drew|apply aa.drewN)) (fun _=>?_);clear hK K;refine bN 10 fun K hK=>?_
  go_simp;refine hK.out _ _ (fD.out _ (by repeat first|exact aa.refl _ _|apply aa.alloc|apply aa.drew|apply aa.drewN)) (fun _=>?_);clear hK K;refine At (by kernel_rfl) ?_ _;unfold eJ;simp only[Al,Ag,Ai];go_simp;go_wp2_with fail;go_ret;exact ax.out _ _ (Or.inr ⟨rfl,rfl⟩)
def Ze(w:World)(lo hi mb c:Nat)(vs:List Sv)(ms:List MS)(st G:Int):Ending->World->Prop:=fun e w'=>∃(eb:Nat) (g:FG),e=.returned (.pointer (some ⟨eb,0,none⟩))/\(g.lo=lo/\g.hi=hi/\g.mb=mb/\g.c=c/\g.vs=vs/\g.ms=ms/\g.st=st/\g.G=G)/\py w' eb g (-1) false [] (.slice none 0 0) (.slice none 0 0)/\(w.heap.size<=eb/\w.heap.size<=g.fb/\w.heap.size<=g.sb/\w.heap.size<=g.bb)/\(g.fb≠g.sb/\g.fb≠g.bb/\g.sb≠g.bb)/\aa af w w'
theorem ak7(hM:jb w lo hi mb c vs ms)(hn:ms.length<=4001):
 Calls prog 46 #[.agg #[.slice (some ⟨mb,0,none⟩) ms.length c,.int .i64 st,.int .i64 G]] w (Ze w lo hi mb c vs ms st G):=by
 have B0:=aq.new w #[.slice (some ⟨mb,0,none⟩) ms.length c,.int .i64 st,.int .i64 G] 73;have fD:Hid (∀W,aa af (w.alloc (.cells #[.slice (some ⟨mb,0,none⟩) ms.length c,.int .i64 st,.int .i64 G] 73)) W->su w.heap.size (some ⟨mb,0,none⟩) ms.length c st G W):=fun W k=>su.of (B0.kept k (fun hx=>hx))
 have k0:aa af w ((w.alloc (.cells #[.slice (some ⟨mb,0,none⟩) ms.length c,.int .i64 st,.int .i64 G] 73)).drew):=((aa.refl af w).alloc _).drew;have F:=ab (ac0 (st:=st) (G:=G) (hM.kept k0) hn);have K0:=ab k0;have HM:=ab hM;clear B0 k0 hM;go_enter func46,ntmps46;go_wp2_with fail;refine gW (S:=su w.heap.size (some ⟨mb,0,none⟩) ms.length c st G) 6 (by kernel_rfl) rfl rfl rfl (by kernel_rfl) (by kernel_rfl) ?_;have aj:=fD.out ((w.alloc (.cells #[.slice (some ⟨mb,0,none⟩) ms.length c,.int .i64 st,.int .i64 G] 73)).drew) (aa.refl _ _).drew;refine ai 0 3 (.pointer (some ⟨w.heap.size,1,none⟩)) aj ?_;refine ai 1 4 (.int .i64 st) aj ?_;refine ai 2 5 (.agg #[.slice (some ⟨mb,0,none⟩) ms.length c,.int .i64 st,.int .i64 G]) aj ?_;simp only[Act.put,Aa,Ad,Ac];refine bN 3 fun K hK=>?_
 go_simp;refine(F.out).mono ?_;rintro e w5 ⟨g,rfl,e1,h5,e2,e3,k5⟩;dsimp only;have jj:=K0.out.size;have K5:=ab (((aa.refl af (w.alloc (.cells #[.slice (some ⟨mb,0,none⟩) ms.length c,.int .i64 st,.int .i64 G] 73))).drew).trans k5)
 have ax:Hid (Ze w lo hi mb c vs ms st G (.returned (.pointer (some ⟨w5.heap.size,0,none⟩))) (w5.alloc (.cells #[.int .i64 st,.pointer (some ⟨g.fb,0,none⟩),.int .i32 (-1),.slice none 0 0,.slice none 0 0,.bool false] 153))):=by
  have kk:aa af w w5:=K0.out.trans k5;have cV:=kk.size;have ka:aa af w5 (w5.alloc (.cells #[.int .i64 st,.pointer (some ⟨g.fb,0,none⟩),.int .i32 (-1),.slice none 0 0,.slice none 0 0,.bool false] 153)):=(aa.refl af w5).alloc _;obtain⟨_,_,_,s1,b1,hB,⟨hS,_⟩,⟨zZ,_⟩⟩:=h5.ex;have f1:=hB.lt;have f2:=hS.lt;have f3:=zZ.lt;have m1:=h5.ma.ic.lt;have m2:=h5.ma.le;have m3:=h5.ma.jK.lt;have tL:=e1;obtain⟨q1,q2,q3,q4,q5,q6,q7,q8⟩:=e1;refine⟨w5.heap.size,g,rfl,tL,⟨?_,A7 _ _ _ _,⟨0,[],A7 _ _ _ _⟩,h5.new ka,Am _,fun t ht=>(by cases ht),⟨⟨by omega,by omega,by omega⟩,fun hx=>?_⟩,fun i hi=>(by cases hi),fun i hi=>(by cases hi),fun i hi=>(by cases hi)⟩,by omega,e3,kk.trans ka⟩
  ·rw[q7];exact aq.new w5 _ _
  ·rcases hx with(hx|hx)|(hx|hx)<;>omega
 refine hK.out _ _ (fD.out _ K5.out) (fun _=>?_);clear hK K F k5 e1 h5 e2 e3;refine bN 4 fun K hK=>?_
 go_simp;refine hK.out _ _ (fD.out _ K5.out) (fun _=>?_);clear hK K;refine bN 5 fun K hK=>?_
 go_simp;refine hK.out _ _ (fD.out _ (K5.out.alloc _)) (fun _=>?_);clear hK K;refine At (by kernel_rfl) ?_ _;unfold eJ;simp only[Al,Ag,Ai];go_simp;go_wp2_with fail;go_ret;exact ax.out
theorem Wr{P:Program}{k:TypeId}{R:Value->Option (DataW Unit×List MemPlace)}{n:Nat}{D:DataW Unit}(h:w.ownsMap P k R b n D):b<w.heap.size:=by
 obtain⟨es,clock,hb,_⟩:=h;exact(Ak.1 hb).1
theorem aq.ux(w:World)(cs:Array Value)(t:TypeId)(k:Nat)(hk:w.heap.size=k):aq (w.alloc (.cells cs t)) k cs t:=by subst hk;exact aq.new w cs t
structure Ot(w0 wx:World)(lo hi mb c:Nat)(vs:List Sv)(ms:List MS)(u G mo:Int)(b mp:Nat)(f:FG)(cl:List Int)(ca:Option Addr)(cc cb:Nat):Prop where
 ak:aq wx b (pG u (.pointer (some ⟨f.fb,0,none⟩)) false (.slice ca cl.length cc) mo mp (.pointer none) (.slice none 0 0)) 159
 map:wx.ownsMap prog 9 lS mp 0 (.map [])
 par:f.lo=lo/\f.hi=hi/\f.mb=mb/\f.c=c/\f.vs=vs/\f.ms=ms/\f.st=u/\f.G=G
 fu:iZ wx f
 cls:zo wx ca cb cl
 zG:cl.Pairwise (· <= ·)
 ok:tt ms cl
 bT:cl.length<=2000000
 low:(w0.heap.size<=b/\w0.heap.size<=mp/\w0.heap.size<=f.fb/\w0.heap.size<=f.sb/\w0.heap.size<=f.bb)/\(cl≠ []->w0.heap.size<=cb)
 ap:((f.fb≠f.sb/\f.fb≠f.bb/\f.sb≠f.bb)/\(b≠mp/\b≠f.fb/\b≠f.sb/\b≠f.bb)/\(mp≠f.fb/\mp≠f.sb/\mp≠f.bb))/\(cl≠ []->cb≠b/\cb≠mp/\cb≠f.fb/\cb≠f.sb/\cb≠f.bb)
 ltm:mp<wx.heap.size
 kept:aa af w0 wx
def Kx(w:World)(lo hi mb c:Nat)(vs:List Sv)(ms:List MS)(u G mo:Int)(e:Ending)(w':World):Prop:=∃(eb p:Nat) (g:FG) (x:gY) (mv:Value),e=.returned (.pointer (some ⟨eb,0,none⟩))/\(g.lo=lo/\g.hi=hi/\g.mb=mb/\g.c=c/\g.vs=vs/\g.ms=ms/\g.st=u/\g.G=G)/\wF g x/\fC w' eb g x p (xD g.ms (-1)) [] mv/\(∀i,dx eb g x mv i->w.heap.size<=i)/\(x.m.cl≠ []->w.heap.size<=x.cb)/\aa af w w'
theorem akw{i:Nat}(hq:f.cI i)(hp:f.lo=lo/\f.hi=hi/\f.mb=mb/\f.c=c/\f.vs=vs/\f.ms=ms/\f.st=u/\f.G=G)(h:jb w lo hi mb c vs ms):i<w.heap.size:=by
 have h1:=h.le;have h2:=h.jK.lt;have h3:=h.ic.lt;obtain⟨p1,p2,p3,_⟩:=hp;rcases hq with(hi|hi)|(hi|hi)
 ·rw[hi,p3];exact h3
 ·omega
 ·rw[hi];exact h2.1
 ·rw[hi];exact h2.2
theorem lH.empty{T:Nat->Option dq}(h:w.ownsMap prog 9 lS mp 0 (.map []))(fL:2<=mo/\mo<=1000000000):lH w mp mo T (.map []):=⟨adn h,by simp[Maps.size];omega,fun kl hk=>(by simp[Maps.has]at hk)⟩
def tg0:TG:=⟨fun _=>False,fun _=>none,fun _=>0⟩
def QP(u mo:Int)(mp:Nat)(ca:Option Addr)(cb cc:Nat)(cl:List Int)(ms:List MS):gY:=⟨⟨ms,u,cl⟩,tg0,mp,mo,ca,cb,cc⟩
theorem an5(w:World)(m:MC):iJ w m tg0:=⟨fun b s h=>(by cases h),fun i h=>h.elim,fun b s h=>(by cases h)⟩
theorem Ot.pre{wx:World}{cl:List Int}{ca:Option Addr}{cc cb:Nat}{ed:Bool}(h:Ot w0 wx lo hi mb c vs ms u G mo b mp f cl ca cc cb)(hB:aq wr b (pG u (.pointer (some ⟨f.fb,0,none⟩)) ed (.slice ca cl.length cc) mo mp (.pointer none) (.slice none 0 0)) 159)(hK:aa (fun i=>i=b) wx wr)(gQ:eR ms/\∃Q,iz Q ms)(hn:ms.length<=4001)(fL:2<=mo/\mo<=1000000000)(bt:0<=u/\u<ms.length)(hm:∀i,f.cI i->i<w0.heap.size)(he:ed=oW f.ms):
 wF f (QP u mo mp ca cb cc cl ms)/\Kw wr b f (QP u mo mp ca cb cc cl ms) (.pointer none) [] (.slice none 0 0)/\((∀i,dx b f (QP u mo mp ca cb cc cl ms) (.slice none 0 0) i->w0.heap.size<=i)/\(cl≠ []->w0.heap.size<=cb)):=by
 obtain⟨p1,p2,p3,p4,p5,p6,p7,p8⟩:=h.par;obtain⟨⟨a1,a2,a3⟩,a4⟩:=h.ap;have l:=h.low;have nm:∀i,w0.heap.size<=i->¬f.cI i:=fun i hi hx=>by have:=hm i hx;omega
 refine⟨⟨⟨by rw[p6];exact gQ.1,by rw[p6];exact gQ.2,by rw[p6];exact hn,a1,nm _ l.1.2.2.1,nm _ l.1.2.2.2.1,nm _ l.1.2.2.2.2⟩,⟨p6.symm,p7.symm⟩,by rw[p6,p7];exact bt,fL,h.zG,h.bT,h.ok⟩,⟨?_,A7 _ _ _ _,⟨.map [],?_⟩,an5 _ _,h.fu.kept hK (fun i hi=>?_),h.cls.kept hK (fun az hx=>(a4 az).1 hx),⟨a2.1,a2.2,a3,nm _ l.1.2.1,fun h=>h,fun h=>h,fun h=>h,fun h=>h,fun h=>h⟩,⟨nm _ l.1.1,fun i hi=>hi.elim⟩,Ar h.ltm hK.size,fun i hi=>(by cases hi),fun az hx=>?_⟩,fun i hi=>?_,l.2⟩
 ·rw[<-he,p7];exact hB
 ·exact lH.empty (jI h.map hK (fun hx=>a2.1 hx.symm)) (by show(2:Int)<=mo/\_;exact fL)
 ·rw[hi];exact⟨by omega,nm _ l.1.1⟩
 ·have:=a4 az;rcases hx with hx|hx|hx|hx|hx|hx|hx
  ·exact this.1 hx
  ·exact hx
  ·exact this.2.1 hx
  ·exact this.2.2.1 hx
  ·exact this.2.2.2.1 hx
  ·exact this.2.2.2.2 hx
  ·cases hx
 ·rcases hi with hi|hi|hi|hi|hi|hi|hi
  ·rw[hi];exact l.1.1
  ·exact hi.elim
  ·rw[hi];exact l.1.2.1
  ·rw[hi];exact l.1.2.2.1
  ·rw[hi];exact l.1.2.2.2.1
  ·rw[hi];exact l.1.2.2.2.2
  ·cases hi
theorem Kx.of{w9:World}{x:gY}(hp:f.lo=lo/\f.hi=hi/\f.mb=mb/\f.c=c/\f.vs=vs/\f.ms=ms/\f.st=u/\f.G=G)(hO:wF f x)(hP:∃(p':Nat) (t':TG) (fy:Value),fC w9 b f (x.to0 t') p' (xD f.ms (-1)) [] fy/\cF (dx b f x (.slice none 0 0)) (dx b f (x.to0 t') fy) wr w9)(hl:(∀i,dx b f x (.slice none 0 0) i->w0.heap.size<=i)/\(x.m.cl≠ []->w0.heap.size<=x.cb))(h0:w.heap.size<=w0.heap.size)(k:aa af w wr):Kx w lo hi mb c vs ms u G mo (.returned (.pointer (some ⟨b,0,none⟩))) w9:=by
 obtain⟨p',t',fy,h1,h2⟩:=hP;have hs:=k.size;refine⟨b,p',f,x.to0 t',fy,rfl,hp,hO.to0 t',h1,fun i hi=>?_,fun az=>Be h0 (hl.2 az),k.yN h2.kept (fun i hi=>Be h0 (hl.1 i hi))⟩;rcases h2.ak i hi with e|e
 ·exact Be h0 (hl.1 i e)
 ·omega
theorem aj5{base:Nat}{x:Int}(Lz:jb w lo hi mb c vs ms)(h:oN w lo hi base (.slice (some ⟨mb,0,none⟩) ms.length c) ms)(az:0<ms.length)(hn:ms.length<=4001)(fL:2<=mo/\mo<=1000000000)(gQ:eR ms/\∃Q,iz Q ms)(Qn:0<=u/\u<ms.length):
 Calls prog 47 #[.agg #[.slice (some ⟨mb,0,none⟩) ms.length c,.int .i64 u,.int .i64 x],.int .i64 mo] w (Kx w lo hi mb c vs ms u x mo):=by
 have L8:=Lz.le;have hWf:∀(v:Nat) (m:MS),ms[v]? =some m->m.kind=1->jP m.sp:=fun v m hm hk=>(gQ.2.elim fun Q hQ=>(hQ m (Ca hm)).1 hk)
 obtain⟨n,Me⟩:∃n,n=ms.length:=⟨_,rfl⟩
 have Ss:=ab Lz;have pC:=ab gQ;have hgm:mb<w.heap.size:=Lz.ic.lt;have rM:=Qn;rw[<-Me]at h az hn⊢;obtain⟨ao,me⟩:∃ao:Option Addr,ao=some ⟨mb,0,none⟩:=⟨_,rfl⟩
 rw[<-me]at h⊢;have B0:=aq.new w #[.slice ao n c,.int .i64 u,.int .i64 x] 73;have fD:Hid (∀W,aa af (w.alloc (.cells #[.slice ao n c,.int .i64 u,.int .i64 x] 73)) W->su w.heap.size ao n c u x W):=fun W k=>su.of (B0.kept k (fun hx=>hx))
 have HF:Hid (∀W,aa af (w.alloc (.cells #[.slice ao n c,.int .i64 u,.int .i64 x] 73)) W->Calls prog 70 #[.agg #[.slice ao n c,.int .i64 u,.int .i64 x]] W (DA W lo hi mb c vs ms u x)):=fun W k=>by
  rw[me,Me];exact ac0 (Lz.kept (((aa.refl af w).alloc _).trans k)) (by omega)
 have HC:Hid (∀W,aa af (w.alloc (.cells #[.slice ao n c,.int .i64 u,.int .i64 x] 73)) W->Calls prog 71 #[.agg #[.slice ao n c,.int .i64 u,.int .i64 x]] W (XO W ms)):=fun W k=>by
  have k':aa af w W:=((aa.refl af w).alloc _).trans k;have h':=h.kept k' (fun _ _ _ hx=>hx) (fun _ _ hx=>hx) L8;have:=agR (u:=u) (x:=x) h' (by have:=k'.size;omega) (by omega) (by omega) hWf;simp only[V5]at this;exact this
 obtain⟨g,c',hv,hg,ju,bt⟩:=h.array (by omega);simp only[Bi]at hv;obtain⟨ml,nI,rfl⟩:=hv;clear nI;have eg:mb=g:=by rw[me]at ml;simpa using ml
 subst eg;subst me;clear ml;have lF:=ab bt;have Su:=ab Me;clear B0 h bt Me Lz gQ;go_enter func47,ntmps47;go_wp2_with fail;go_cut [5] (fun s5 wx=>∃(b mp:Nat) (f:FG) (cl:List Int) (ca:Option Addr) (cc cb:Nat),s5=.pointer (some ⟨b,0,none⟩)/\Hid (Ot (w.alloc (.cells #[.slice (some ⟨mb,0,none⟩) n c,.int .i64 u,.int .i64 x] 73)) wx lo hi mb c vs ms u x mo b mp f cl ca cc cb))
 case first=>
  refine gW (S:=su w.heap.size (some ⟨mb,0,none⟩) n c u x) 10 (by kernel_rfl) rfl rfl rfl (by kernel_rfl) (by kernel_rfl) ?_;have aj:=fD.out ((w.alloc (.cells #[.slice (some ⟨mb,0,none⟩) n c,.int .i64 u,.int .i64 x] 73)).drew) (aa.refl _ _).drew;refine ai 0 7 (.pointer (some ⟨w.heap.size,1,none⟩)) aj ?_;refine ai 1 8 (.int .i64 u) aj ?_;refine ai 2 9 (.agg #[.slice (some ⟨mb,0,none⟩) n c,.int .i64 u,.int .i64 x]) aj ?_;refine ai 4 11 (.agg #[.slice (some ⟨mb,0,none⟩) n c,.int .i64 u,.int .i64 x]) aj ?_;refine ai 6 13 (.int .i64 mo) aj ?_;simp only[Act.put,Aa,Ad,Ac];refine Fw (rs:=[3,7]) (by kernel_rfl) (by simp) (Dg rfl (fun K hK=>?_) (Dg rfl (fun K hK=>?_) Fo))
  ·go_simp;refine(HF.out _ (by first|exact(aa.refl _ _).drew|exact((aa.refl _ _).alloc _).drew)).mono ?_;rintro e w1 ⟨f,rfl,Nc,MA,MV,lj,yG⟩;have kE:=ab (And.intro Nc (And.intro MA (And.intro MV lj)));clear Nc MA MV lj;dsimp only;have K1:=ab (((aa.refl af (w.alloc (.cells #[.slice (some ⟨mb,0,none⟩) n c,.int .i64 u,.int .i64 x] 73))).drew).trans yG);refine hK.out _ _ (fD.out _ K1.out) (fun _=>?_);clear hK K yG;refine Fw (rs:=[5,7]) (by kernel_rfl) (by simp) (Dg rfl (fun K hK=>?_) (Dg rfl (fun K hK=>?_) Fo))
   ·go_simp;have J_:=ab kE.out.2.1;refine(HC.out _ (K1.out)).mono ?_;rintro e w2 ⟨cl,KM,cc,cb,rfl,at2,zH,BP,zQ,ux,kx⟩;have iN:=ab (And.intro at2 (And.intro zH (And.intro BP (And.intro zQ ux))));have tB:=ab (J_.out.new kx);have gX:=ab (kx.size);clear at2 zH BP zQ ux;dsimp only;have K2:=ab ((K1.out).trans kx);refine hK.out _ _ (fD.out _ K2.out) (fun _=>?_);clear hK K kx;refine bN 7 fun K hK=>?_
    have HM:=ab (Ec (w2) prog 9 lS);go_simp;refine hK.out _ _ (fD.out _ (K2.out.alloc _)) (fun _=>?_);clear hK K;refine bN 8 fun K hK=>?_
    go_simp;refine hK.out _ _ (fD.out _ (K2.out.alloc (.map #[] 0))) (fun _=>?_);clear hK K;refine bN 9 fun K hK=>?_
    go_simp;refine hK.out _ _ (fD.out _ (aa.alloc (K2.out.alloc (.map #[] 0)) _)) (fun _=>?_);clear hK K;refine At (by kernel_rfl) ?_ _;unfold eJ;simp only[Al,Ag,Ai];go_simp;go_wp2_with fail;go_meet
    case rel=>
     obtain⟨_,_,_,_,_,y1,⟨y2,_⟩,⟨y3,_⟩⟩:=kE.out.2.1.ex;have z1:=y1.lt;have z2:=y2.lt;have z3:=y3.lt;have z4:=kE.out.2.2.1;have z5:=gX.out;have z6:=iN.out.2.2.2.2;have z7:=(fun az=>(iN.out.1.at_ az).2);have yB:=Wr HM.out;have zk:=K1.out.size;have zd:=((aa.refl af (w.alloc (.cells #[.slice (some ⟨mb,0,none⟩) n c,.int .i64 u,.int .i64 x] 73))).drew).size;simp only[ib]at z4 z5 z6 z7 yB zk zd;refine⟨_,_,f,cl,KM,cc,cb,rfl,ab ⟨aq.ux _ _ _ _ (by simp),jI HM.out ((aa.refl af _).alloc _) (fun hx=>hx),kE.out.1,tB.out.new (((aa.refl af _).alloc _).alloc _),iN.out.1.kept (K:=af) (((aa.refl af _).alloc _).alloc _) (fun _ hx=>hx),iN.out.2.1,iN.out.2.2.1,iN.out.2.2.2.1,?_,?_,?_,aa.alloc (K2.out.alloc (.map #[] 0)) _⟩⟩
     ·(try simp only[ib])
      exact⟨⟨by omega,by omega,by omega,by omega,by omega⟩,fun az=>by have:=z6 az;omega⟩
     ·(try simp only[ib])
      exact⟨⟨kE.out.2.2.2,⟨by omega,by omega,by omega,by omega⟩,by omega,by omega,by omega⟩,fun az=>by have:=z6 az;have:=z7 az;omega⟩
     ·first|omega|(simp only[ib];omega)
   ·have HM:=ab (Ec (w1) prog 9 lS);go_simp;refine hK.out _ _ (fD.out _ (K1.out.alloc _)) (fun _=>?_);clear hK K;refine bN 5 fun K hK=>?_
    go_simp;have J_:=ab (kE.out.2.1.new ((aa.refl af w1).alloc (.map #[] 0)));refine(HC.out _ (K1.out.alloc _)).mono ?_;rintro e w2 ⟨cl,KM,cc,cb,rfl,at2,zH,BP,zQ,ux,kx⟩;have iN:=ab (And.intro at2 (And.intro zH (And.intro BP (And.intro zQ ux))));have tB:=ab (J_.out.new kx);have gX:=ab (kx.size);clear at2 zH BP zQ ux;dsimp only;have K2:=ab ((K1.out.alloc _).trans kx);refine hK.out _ _ (fD.out _ K2.out) (fun _=>?_);have uK:=ab (jI HM.out kx (fun hx=>hx));clear hK K kx;refine bN 8 fun K hK=>?_
    go_simp;refine hK.out _ _ (fD.out _ K2.out) (fun _=>?_);clear hK K;refine bN 9 fun K hK=>?_
    go_simp;refine hK.out _ _ (fD.out _ (aa.alloc K2.out _)) (fun _=>?_);clear hK K;refine At (by kernel_rfl) ?_ _;unfold eJ;simp only[Al,Ag,Ai];go_simp;go_wp2_with fail;go_meet
    case rel=>
     obtain⟨_,_,_,_,_,y1,⟨y2,_⟩,⟨y3,_⟩⟩:=kE.out.2.1.ex;have z1:=y1.lt;have z2:=y2.lt;have z3:=y3.lt;have z4:=kE.out.2.2.1;have z5:=gX.out;have z6:=iN.out.2.2.2.2;have z7:=(fun az=>(iN.out.1.at_ az).2);have yB:=Wr uK.out;have zk:=K1.out.size;have zd:=((aa.refl af (w.alloc (.cells #[.slice (some ⟨mb,0,none⟩) n c,.int .i64 u,.int .i64 x] 73))).drew).size;simp only[ib]at z4 z5 z6 z7 yB zk zd;refine⟨_,_,f,cl,KM,cc,cb,rfl,ab ⟨aq.ux _ _ _ _ (by simp),jI uK.out ((aa.refl af _).alloc _) (fun hx=>hx),kE.out.1,tB.out.new ((aa.refl af _).alloc _),iN.out.1.kept (K:=af) ((aa.refl af _).alloc _) (fun _ hx=>hx),iN.out.2.1,iN.out.2.2.1,iN.out.2.2.2.1,?_,?_,?_,aa.alloc K2.out _⟩⟩
     ·(try simp only[ib])
      exact⟨⟨by omega,by omega,by omega,by omega,by omega⟩,fun az=>by have:=z6 az;omega⟩
     ·(try simp only[ib])
      exact⟨⟨kE.out.2.2.2,⟨by omega,by omega,by omega,by omega⟩,by omega,by omega,by omega⟩,fun az=>by have:=z6 az;have:=z7 az;omega⟩
     ·first|omega|(simp only[ib];omega)
  ·have HM:Hid (World.ownsMap ((w.alloc (.cells #[.slice (some ⟨mb,0,none⟩) n c,.int .i64 u,.int .i64 x] 73)).alloc (.map #[] 0)) prog 9 lS (w.heap.size+1) 0 (.map [])):=ab (by rw[<-ib w (.cells #[.slice (some ⟨mb,0,none⟩) n c,.int .i64 u,.int .i64 x] 73)];exact Ec (w.alloc (.cells #[.slice (some ⟨mb,0,none⟩) n c,.int .i64 u,.int .i64 x] 73)) prog 9 lS);go_simp;refine hK.out _ _ (fD.out _ ((aa.refl af (w.alloc (.cells #[.slice (some ⟨mb,0,none⟩) n c,.int .i64 u,.int .i64 x] 73))).alloc _).drew) (fun _=>?_);clear hK K;refine bN 3 fun K hK=>?_
   go_simp;refine(HF.out _ (by first|exact(aa.refl _ _).drew|exact((aa.refl _ _).alloc _).drew)).mono ?_;rintro e w1 ⟨f,rfl,Nc,MA,MV,lj,yG⟩;have kE:=ab (And.intro Nc (And.intro MA (And.intro MV lj)));clear Nc MA MV lj;dsimp only;have K1:=ab ((((aa.refl af (w.alloc (.cells #[.slice (some ⟨mb,0,none⟩) n c,.int .i64 u,.int .i64 x] 73))).alloc (.map #[] 0)).drew).trans yG);refine hK.out _ _ (fD.out _ K1.out) (fun _=>?_);have so:=ab (jI (show World.ownsMap (((w.alloc (.cells #[.slice (some ⟨mb,0,none⟩) n c,.int .i64 u,.int .i64 x] 73)).alloc (.map #[] 0)).drew) prog 9 lS _ 0 (.map [])from HM.out) yG (fun hx=>hx));clear hK K yG;refine bN 5 fun K hK=>?_
   go_simp;have J_:=ab kE.out.2.1;refine(HC.out _ (K1.out)).mono ?_;rintro e w2 ⟨cl,KM,cc,cb,rfl,at2,zH,BP,zQ,ux,kx⟩;have iN:=ab (And.intro at2 (And.intro zH (And.intro BP (And.intro zQ ux))));have tB:=ab (J_.out.new kx);have gX:=ab (kx.size);clear at2 zH BP zQ ux;dsimp only;have K2:=ab ((K1.out).trans kx);refine hK.out _ _ (fD.out _ K2.out) (fun _=>?_);have uK:=ab (jI so.out kx (fun hx=>hx));clear hK K kx;refine bN 8 fun K hK=>?_
   go_simp;refine hK.out _ _ (fD.out _ K2.out) (fun _=>?_);clear hK K;refine bN 9 fun K hK=>?_
   go_simp;refine hK.out _ _ (fD.out _ (aa.alloc K2.out _)) (fun _=>?_);clear hK K;refine At (by kernel_rfl) ?_ _;unfold eJ;simp only[Al,Ag,Ai];go_simp;go_wp2_with fail;go_meet
   case rel=>
    obtain⟨_,_,_,_,_,y1,⟨y2,_⟩,⟨y3,_⟩⟩:=kE.out.2.1.ex;have z1:=y1.lt;have z2:=y2.lt;have z3:=y3.lt;have z4:((w.alloc (.cells #[.slice (some ⟨mb,0,none⟩) n c,.int .i64 u,.int .i64 x] 73)).alloc (.map #[] 0)).heap.size<=f.fb/\((w.alloc (.cells #[.slice (some ⟨mb,0,none⟩) n c,.int .i64 u,.int .i64 x] 73)).alloc (.map #[] 0)).heap.size<=f.sb/\((w.alloc (.cells #[.slice (some ⟨mb,0,none⟩) n c,.int .i64 u,.int .i64 x] 73)).alloc (.map #[] 0)).heap.size<=f.bb:=kE.out.2.2.1;have z5:=gX.out;have z6:=iN.out.2.2.2.2;have z7:=(fun az=>(iN.out.1.at_ az).2);have yB:=Wr uK.out;have zk:=K1.out.size;have zd:=((aa.refl af ((w.alloc (.cells #[.slice (some ⟨mb,0,none⟩) n c,.int .i64 u,.int .i64 x] 73)).alloc (.map #[] 0))).drew).size;simp only[ib]at z4 z5 z6 z7 yB zk zd;refine⟨_,_,f,cl,KM,cc,cb,rfl,ab ⟨aq.ux _ _ _ _ (by simp),jI uK.out ((aa.refl af _).alloc _) (fun hx=>hx),kE.out.1,tB.out.new ((aa.refl af _).alloc _),iN.out.1.kept (K:=af) ((aa.refl af _).alloc _) (fun _ hx=>hx),iN.out.2.1,iN.out.2.2.1,iN.out.2.2.2.1,?_,?_,?_,aa.alloc K2.out _⟩⟩
    ·(try simp only[ib])
     exact⟨⟨by omega,by omega,by omega,by omega,by omega⟩,fun az=>by have:=z6 az;omega⟩
    ·(try simp only[ib])
     exact⟨⟨kE.out.2.2.2,⟨by omega,by omega,by omega,by omega⟩,by omega,by omega,by omega⟩,fun az=>by have:=z6 az;have:=z7 az;omega⟩
    ·first|omega|(simp only[ib];omega)
 case rest=>
  obtain⟨b,mp,f,cl,ca,cc,cb,rfl,HP⟩:=hcut;have m0:=(fD.out _ HP.out.kept).1;have oX:=HP.out.low.1.1;simp only[ib]at oX;have HB:=ab HP.out.ak;clear HF HC;go_wp2_with fail;go_loopg [20] n (fun kk i wr=>∃(k:Nat) (ed:Bool),i=.int .i64 (k:Int)/\k<=n/\kk=n-k/\Hid (ed=(ms.take k).any fun m=>m.kind==2)/\Hid (aq wr b (pG u (.pointer (some ⟨f.fb,0,none⟩)) ed (.slice ca cl.length cc) mo mp (.pointer none) (.slice none 0 0)) 159)/\Hid (aa (fun i=>i=b) wc wr))
  case atStart=>exact⟨0,false,rfl,Am _,rfl,ab (by simp),HB,aa.refl _ _⟩
  case round=>
   obtain⟨k,ed,rfl,hk,eT,Si,jA,mE⟩:=hrel;clear HB;have e2:wr.cell? ⟨b,2,none⟩=some (.bool ed):=jA.out.cell 2;have f2:wr.frozen? ⟨b,2,none⟩=false:=jA.out.frozen 2;have gz:=jA.out.lt;have KW:aa af (w.alloc (.cells #[.slice (some ⟨mb,0,none⟩) n c,.int .i64 u,.int .i64 x] 73)) wr:=HP.out.kept.yN mE.out (fun i hi'=>by subst hi';simp only[ib];omega);have m0:=(fD.out _ KW).1;have On:=((aa.refl af w).alloc (.cells #[.slice (some ⟨mb,0,none⟩) n c,.int .i64 u,.int .i64 x] 73)).trans KW;by_cases aw:k<n
   ·have hit:(k:Int)<(n:Int):=(by omega);have UT:¬((n:Int)<=(k:Int)):=(by omega);have U4:k<ms.length:=by have:=Su.out;omega
    obtain⟨q,hq,mi⟩:=lF.out k U4;have d0:wr.cell? ⟨mb,k*6,none⟩=some (.int .i64 q.k):=(On.cell (p:=⟨mb,k*6,none⟩) hg (fun hx=>hx)).trans (mi 0 (by omega));have Kf:∀Iu,Hid (aa (fun i=>i=b) wc (wr.setCell ⟨b,2,none⟩ (.bool Iu))):=fun Iu=>mE.out.setCell (p:=⟨b,2,none⟩) (Or.inl rfl) _
    have wo:∀Iu,Hid (aq (wr.setCell ⟨b,2,none⟩ (.bool Iu)) b (pG u (.pointer (some ⟨f.fb,0,none⟩)) Iu (.slice ca cl.length cc) mo mp (.pointer none) (.slice none 0 0)) 159):=fun Iu=>jA.out.setCell 2 _
    have Sj:Hid ((ed||q.k==2)=(ms.take (k+1)).any fun m=>m.kind==2):=by
     show _=_
     rw[C2 U4,List.any_append,Si.out,hq.k];simp
    have Kf:=ab Kf;have wo:=ab wo;clear hq mi KW On jA mE U4 Si
    cases ed with
    |true=>
     have J5:Hid (true=(ms.take (k+1)).any fun m=>m.kind==2):=Sj.out;go_wp2_with fail;go_roundg (n-(k+1))
     case measure=>omega
     case rel=>exact⟨k+1,true,by simp,by omega,rfl,J5,wo.out _,Kf.out _⟩
    |false=>
     by_cases k2:q.k=2
     ·have km:(q.k==2)=true:=(by simp[k2]);have J5:Hid (true=(ms.take (k+1)).any fun m=>m.kind==2):=by rw[<-Sj.out,km];exact rfl
      clear k2;go_wp2_with fail;go_roundg (n-(k+1))
      case measure=>omega
      case rel=>exact⟨k+1,true,by simp,by omega,rfl,J5,wo.out _,Kf.out _⟩
     ·have km:(q.k==2)=false:=(by simp[k2]);have J5:Hid (false=(ms.take (k+1)).any fun m=>m.kind==2):=by rw[<-Sj.out,km];exact rfl
      clear k2;go_wp2_with fail;go_roundg (n-(k+1))
      case measure=>omega
      case rel=>exact⟨k+1,false,by simp,by omega,rfl,J5,wo.out _,Kf.out _⟩
   ·have gA:k=n:=(by omega);subst gA;have hit:¬((k:Int)<(k:Int)):=by omega
    have he:ed=oW f.ms:=by
     rw[Si.out,Su.out,Cl,HP.out.par.2.2.2.2.2.1];rfl
    subst he;obtain⟨OK,Zk,Kv⟩:=Ot.pre HP.out jA.out mE.out pC.out (by have:=Su.out;omega) fL Qn (fun i hi=>by have:=akw hi HP.out.par Ss.out;simp only[ib];omega) rfl;have F:=ab (acp (c:= -1) OK Zk);have ax:Hid (∀e w9,RX wr b f (QP u mo mp ca cb cc cl ms) (.slice none 0 0) (-1) e w9->e=.returned (.tuple #[])/\Kx w lo hi mb c vs ms u x mo (.returned (.pointer (some ⟨b,0,none⟩))) w9):=(fun e w9 P=>⟨P.1,Kx.of HP.out.par OK P.2 Kv (by simp only[ib];omega) On⟩);clear KW On jA OK Zk Kv;go_wp2_with fail;refine(F.out).mono ?_;intro e w9 P;obtain⟨rfl,P9⟩:=ax.out e w9 P;have CS:=ab P9;clear P P9 F ax;go_wp2_with fail;go_ret;exact CS.out
theorem Xg{ah:Int}(h:pw ms A ah)(l:List bF):aZ ms ah bh l=aZ ms A bh l:=by
 have hs:DD ms A ah bh bh:=⟨fun u m hm hk=>rfl,fun u m hm hk=>h u m hm hk bh⟩;have:=Xh hs (fun x=>x) l;rw[Rf,Rf]at this;rw[this];refine Prod.ext rfl ?_;show(aZ ms A bh l).2.map (fun x=>x)=_
 cases(aZ ms A bh l).2<;>rfl
def Z0(s:dq):Prop:=∀t,s.aU.head?=some t->t.2=0
theorem amS(l:List bF):∀t,(fO l).1.head?=some t->t.2=0:=by
 intro t ht
 cases l with
 |nil=>simp[fO,gD]at ht
 |cons a bs=>
  have e:(fO (a::bs)).1.head?=some (a.1,((c_ [] a.2).length:Int)-1):=rfl;rw[e]at ht
  cases ht;rfl
theorem ahM{s:dq}{M:List Int}(hz:Z0 s)(hr:∀t∈s.aU,0<=t.2)(hl:M.length=jm s.aU):M.headD 0=((uZ M s.aU).head?.map (·.2)).getD 0/\(!M.isEmpty)=(!(uZ M s.aU).isEmpty):=by
 cases hs:s.aU with
 |nil=>
  rw[hs]at hl;have:M=[]:=Aw.1 hl;subst this;exact⟨rfl,rfl⟩
 |cons t ts=>
  have h0:=hz t (by rw[hs];rfl)
  have h1:0<M.length:=by
   rw[hl,hs];unfold jm;rw[D7 (by simp)];have:=hr _ (by rw[hs];exact List.getLast_mem (List.cons_ne_nil t ts));show 0<(((t::ts).getLast _).2+1).toNat
   omega
  cases M with
  |nil=>simp at h1
  |cons v vs=>
   refine⟨?_,rfl⟩;show v=gB (v::vs) t.2
   rw[h0];rfl
def pU(st p:Int)(mt:Bool)(l:List bF):List bF:=if mt then l else l++[(st,p)]
theorem akS(x:Value)(n:Nat)(w:World):(method (n+9) 125 x "Step").run prog w=.ok (227,x) w:=by kernel_rfl
theorem agC(a:Array Value)(w:World):(callFunc 227 a).run prog w=.ok (.enter 227 a) w:=by kernel_rfl
theorem akQ(x:Value)(n:Nat)(w:World):(method (n+9) 125 x "First").run prog w=.ok (225,x) w:=by kernel_rfl
theorem agA(a:Array Value)(w:World):(callFunc 225 a).run prog w=.ok (.enter 225 a) w:=by kernel_rfl
theorem akO(x:Value)(n:Nat)(w:World):(method (n+9) 125 x "Begin").run prog w=.ok (224,x) w:=by kernel_rfl
theorem agw(a:Array Value)(w:World):(callFunc 224 a).run prog w=.ok (.enter 224 a) w:=by kernel_rfl
theorem akR(x:Value)(n:Nat)(w:World):(method (n+9) 127 x "Step").run prog w=.ok (233,x) w:=by kernel_rfl
theorem agB(a:Array Value)(w:World):(callFunc 233 a).run prog w=.ok (.enter 233 a) w:=by kernel_rfl
theorem akP(x:Value)(n:Nat)(w:World):(method (n+9) 127 x "First").run prog w=.ok (231,x) w:=by kernel_rfl
theorem agz(a:Array Value)(w:World):(callFunc 231 a).run prog w=.ok (.enter 231 a) w:=by kernel_rfl
theorem akN(x:Value)(n:Nat)(w:World):(method (n+9) 127 x "Begin").run prog w=.ok (72,x) w:=by kernel_rfl
theorem agv(a:Array Value)(w:World):(callFunc 72 a).run prog w=.ok (.enter 72 a) w:=by kernel_rfl
structure afv(w:World)(ev:Value)(ms:List MS)(st A:Int)(mt:Bool)(l:List bF)(au fix:Nat->Prop)(eb:Nat)(g:FG)(lv sv:Value)(ah:Int):Prop where
 ev:ev=.iface 125 (.pointer (some ⟨eb,0,none⟩))
 ok:g.Ok
 par:(g.ms=ms/\g.st=st)/\0<=g.st/\g.st<g.ms.length
 Il:pw ms A ah
 at_:py w eb g ah mt l lv sv
 au:au=k_ eb g lv sv
 fix:fix=g.cI
structure afu(w:World)(ev:Value)(ms:List MS)(st A:Int)(mt:Bool)(l:List bF)(au fix:Nat->Prop)(eb:Nat)(g:FG)(x:gY)(p:Nat)(s:dq)(M:List Int)(mv:Value):Prop where
 ev:ev=.iface 127 (.pointer (some ⟨eb,0,none⟩))
 ok:wF g x
 par:g.ms=ms/\g.st=st
 Il:pw ms A s.ah
 mt:mt=s.mt
 l:l=uZ M s.aU
 len:M.length=jm s.aU
 z:Z0 s
 at_:fC w eb g x p s M mv
 au:au=dx eb g x mv
 fix:fix=fun i=>g.cI i\/(x.m.cl≠ []/\i=x.cb)
def lZ(w:World)(ev:Value)(ms:List MS)(st A:Int)(mt:Bool)(l:List bF)(au fix:Nat->Prop):Prop:=
 (∃eb g lv sv ah,afv w ev ms st A mt l au fix eb g lv sv ah)\/∃eb g x p s M mv,afu w ev ms st A mt l au fix eb g x p s M mv
theorem lZ.kept{K:Nat->Prop}(h:lZ w ev ms st A mt l au fix)(k:aa K w w')(hK:∀i,K i->¬au i/\¬fix i):lZ w' ev ms st A mt l au fix:=by
 rcases h with⟨eb,g,lv,sv,ah,h⟩|⟨eb,g,x,p,s,M,mv,h⟩
 ·exact Or.inl ⟨eb,g,lv,sv,ah,h.ev,h.ok,h.par,h.Il,h.at_.kept k (fun i hi=>by have:=hK i hi;rw[h.au,h.fix]at this;exact this),h.au,h.fix⟩
 ·exact Or.inr ⟨eb,g,x,p,s,M,mv,h.ev,h.ok,h.par,h.Il,h.mt,h.l,h.len,h.z,h.at_.kept k (fun i hi=>by have:=hK i hi;rw[h.au,h.fix]at this;exact⟨⟨this.1,fun hx=>this.2 (Or.inl hx)⟩,fun az e=>this.2 (Or.inr ⟨az,e⟩)⟩),h.au,h.fix⟩
theorem lZ.new(h:lZ w ev ms st A mt l au fix)(k:aa af w w'):lZ w' ev ms st A mt l au fix:=h.kept k (fun _ hx=>hx.elim)
theorem lZ.lt(h:lZ w ev ms st A mt l au fix):(∀i,au i->i<w.heap.size)/\∀i,fix i->i<w.heap.size:=by
 rcases h with⟨eb,g,lv,sv,ah,h⟩|⟨eb,g,x,p,s,M,mv,h⟩
 ·rw[h.au,h.fix];refine⟨fun i hi=>?_,fun i hi=>uu h.at_.fu hi⟩;obtain⟨_,_,_,_,_,x1,⟨x2,_⟩,⟨x3,_⟩⟩:=h.at_.fu.ex;obtain⟨n,xs,hs⟩:=h.at_.sp;rcases hi with hi|((hi|hi|hi)|hi)|hi
  ·rw[hi];exact h.at_.ak.lt
  ·rw[hi];exact x1.lt
  ·rw[hi];exact x2.lt
  ·rw[hi];exact x3.lt
  ·exact(dw h.at_.ls hi).2
  ·exact(dw hs hi).2
 ·rw[h.au,h.fix];refine⟨fun i hi=>h.at_.gT hi,fun i hi=>?_⟩;rcases hi with hi|⟨az,hi⟩
  ·exact uu h.at_.fu hi
  ·rw[hi];exact(h.at_.cls.at_ az).2
def StE(w:World)(ev:Value)(ms:List MS)(st A:Int)(mt:Bool)(l:List bF)(au fix:Nat->Prop)(place bh:Int)(e:Ending)(w':World):Prop:=
 e=.returned (.tuple #[.int .i64 ((aZ ms A bh (pU st place mt l)).2.getD 0),.bool (aZ ms A bh (pU st place mt l)).2.isSome])/\∃cJ,lZ w' ev ms st bh (mt||(aZ ms A bh (pU st place mt l)).2.isSome) (aZ ms A bh (pU st place mt l)).1 cJ fix/\cF au cJ w w'
theorem lZ.step{place:Int}(h:lZ w ev ms st A mt l au fix)(hb:0<=bh/\bh<=1114111):
 ∃(T:TypeId) (xv:Value) (fn:Nat),ev=.iface T xv/\(∀n W,(method (n+9) T xv "Step").run prog W=.ok (fn,xv) W)/\(∀a W,(callFunc fn a).run prog W=.ok (.enter fn a) W)/\Calls prog fn #[xv,.int .i64 place,.int .i32 bh] w (StE w ev ms st A mt l au fix place bh):=by
 rcases h with⟨eb,g,lv,sv,ah,h⟩|⟨eb,g,x,p,s,M,mv,h⟩
 ·refine⟨_,_,_,h.ev,akS _,agC,(aiq h.ok h.par.2 hb h.at_).mono ?_⟩;rintro e w' ⟨rfl,dc,xE,h1,h2⟩;have en:uz g place mt l=pU st place mt l:=by unfold uz pU;rw[h.par.1.2]
  rw[en,h.par.1.1,Xg h.Il]at h1;refine⟨by rw[en,h.par.1.1,Xg h.Il],k_ eb g dc xE,Or.inl ⟨eb,g,dc,xE,bh,h.ev,h.ok,h.par,fun _ _ _ _ _=>rfl,h1,rfl,h.fix⟩,?_⟩;rw[h.au];exact h2
 ·refine⟨_,_,_,h.ev,akR _,agB,(aj6 h.ok hb h.at_ h.len).mono ?_⟩;rintro e w' ⟨t',p',fy,rfl,h1,h2⟩;have df:=(h.at_.mS.ok p s h.at_.qM).1;have e1:x.m.ms=ms:=h.ok.ms.1.trans h.par.1;have e2:x.m.st=st:=h.ok.ms.2.trans h.par.2;have gQ:eR x.m.ms:=by rw[h.ok.ms.1];exact h.ok.ok.ft
  have LI:=alJ (st:=x.m.st) (jV:=jJ x.m.ms bh) (p:=place) (ah:=s.ah) (bh:=bh) (ng:=bh) df h.len ⟨fun _ _ _ _=>rfl,fun _ _ _ _=>rfl⟩;have ajc:=alk df h.len x.m.st place
  have hN:uZ (mr s M place) (du x.m.st s)=pU st place mt l:=by
   rw[ajc,<-h.l,e2];unfold pU;rw[h.mt]
  rw[hN,e1,Xg h.Il]at LI;have hO:mu ms x.m.st (jJ ms bh) bh s=x.m.out bh s:=by unfold MC.out;rw[e1]
  rw[hO]at LI;have hx:=Rw gQ s.ah bh (du x.m.st s);obtain⟨r1,r2,r3,r4,r5⟩:=Wm (st:=x.m.st) (jV:=jJ x.m.ms bh) gQ df hx (aeN _ _ _ _);have Pr:mu x.m.ms x.m.st (jJ x.m.ms bh) bh s=x.m.out bh s:=rfl;rw[Pr]at r2;refine⟨?_,dx eb g (x.to0 t') fy,Or.inr ⟨eb,g,x.to0 t',p',(x.m.out bh s).1,_,fy,h.ev,h.ok.to0 t',h.par,?_,?_,?_,?_,?_,h1,rfl,h.fix⟩,?_⟩
  ·rw[LI];congr 5
   cases(x.m.out bh s).2.2<;>rfl
  ·show pw ms bh (jJ x.m.ms bh)
   rw[e1];exact Xf ms bh
  ·rw[LI,h.mt];show(s.mt||((x.m.out bh s).2.2.map _).isSome)=(s.mt||(x.m.out bh s).2.2.isSome)
   cases(x.m.out bh s).2.2<;>rfl
  ·rw[LI]
  ·rw[Co];exact r2
  ·exact amS _
  ·rw[h.au];exact h2
theorem lZ.first(h:lZ w ev ms st A mt l au fix):
 ∃(T:TypeId) (xv:Value) (fn:Nat),ev=.iface T xv/\(∀n W,(method (n+9) T xv "First").run prog W=.ok (fn,xv) W)/\(∀a W,(callFunc fn a).run prog W=.ok (.enter fn a) W)/\Calls prog fn #[xv] w fun e w'=>e=.returned (.tuple #[.int .i64 ((l.head?.map (·.2)).getD 0),.bool (!l.isEmpty)])/\w'=w:=by
 rcases h with⟨eb,g,lv,sv,ah,h⟩|⟨eb,g,x,p,s,M,mv,h⟩
 ·exact⟨_,_,_,h.ev,akQ _,agA,ail h.at_⟩
 ·refine⟨_,_,_,h.ev,akP _,agz,(aj3 h.at_).mono ?_⟩;rintro e w' ⟨rfl,rfl⟩;have:=ahM h.z (fun t ht=>((h.at_.mS.ok p s h.at_.qM).1.rg t ht).1) h.len;rw[h.l,this.1,this.2];exact⟨rfl,rfl⟩
def BgE(w:World)(ev:Value)(ms:List MS)(st:Int)(au fix:Nat->Prop)(c:Int)(e:Ending)(w':World):Prop:=e=.returned (.tuple #[])/\∃cJ,lZ w' ev ms st c false [] cJ fix/\cF au cJ w w'
theorem lZ.begin{c:Int}(h:lZ w ev ms st A mt l au fix):
 ∃(T:TypeId) (xv:Value) (fn:Nat),ev=.iface T xv/\(∀n W,(method (n+9) T xv "Begin").run prog W=.ok (fn,xv) W)/\(∀a W,(callFunc fn a).run prog W=.ok (.enter fn a) W)/\Calls prog fn #[xv,.int .i32 c] w (BgE w ev ms st au fix c):=by
 rcases h with⟨eb,g,lv,sv,ah,h⟩|⟨eb,g,x,p,s,M,mv,h⟩
 ·refine⟨_,_,_,h.ev,akO _,agw,(aij h.at_).mono ?_⟩;rintro e w' ⟨rfl,dc,h1,h2⟩;refine⟨rfl,k_ eb g dc sv,Or.inl ⟨eb,g,dc,sv,c,h.ev,h.ok,h.par,fun _ _ _ _ _=>rfl,h1,rfl,h.fix⟩,?_⟩;rw[h.au];exact h2
 ·refine⟨_,_,_,h.ev,akN _,agv,(acp h.ok h.at_.pre).mono ?_⟩;rintro e w' ⟨rfl,p',t',fy,h1,h2⟩;refine⟨rfl,dx eb g (x.to0 t') fy,Or.inr ⟨eb,g,x.to0 t',p',xD g.ms c,[],fy,h.ev,h.ok.to0 t',h.par,?_,rfl,rfl,rfl,fun t ht=>(by cases ht),h1,rfl,h.fix⟩,?_⟩
  ·show pw ms c (jJ g.ms c)
   rw[h.par.1];exact Xf ms c
  ·rw[h.au];exact h2
end Go.Proofs.YtpdnofhackjfdaaGreatDoor
