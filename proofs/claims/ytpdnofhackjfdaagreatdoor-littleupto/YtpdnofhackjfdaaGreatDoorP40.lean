/- Package threads -/
import Derived.Test.YtpdnofhackjfdaaGreatDoorP39
set_option linter.all false
set_option maxRecDepth 100000
set_option maxHeartbeats 4000000
namespace Go.Proofs.YtpdnofhackjfdaaGreatDoor
open Go.Proofs.Tryz
open Go.RowKit Go.Maps
variable {mt:Bool} {f:FG} {A G bh mo st u:Int} {ms:List MS} {vs:List Sv} {l:List bG} {b c hi lo mb mp:Nat} {fix au:Nat->Prop} {ev:Value} {w w' w0 wr:World}
theorem akS(n:Nat):madeCells (Value.bool false).cells n=(kO (List.replicate n false)).toArray:=by
 unfold madeCells kO;have e:(Value.bool false).cells=#[Value.bool false]:=rfl;rw[e];refine Array.ext (by simp) fun i h1 h2=>?_
 simp[Gj]
def DT(w:World)(lo hi mb c:Nat)(vs:List Sv)(ms:List MS)(st G:Int):Ending->World->Prop:=fun e w'=>∃g:FG,e=.returned (.pointer (some ⟨g.fb,0,none⟩))/\(g.lo=lo/\g.hi=hi/\g.mb=mb/\g.c=c/\g.vs=vs/\g.ms=ms/\g.st=st/\g.G=G)/\jc w' g/\(w.heap.size<=g.fb/\w.heap.size<=g.sb/\w.heap.size<=g.bb)/\(g.fb≠g.sb/\g.fb≠g.bb/\g.sb≠g.bb)/\aa af w w'
theorem DT.of(hM:jt w lo hi mb c vs ms){fb sb bb:Nat}(k:aa af w w')
 (hF:aq w' fb #[.slice (some ⟨mb,0,none⟩) ms.length c,.int .i64 st,.int .i64 G,.int .i32 0,.int .i32 0,.slice (some ⟨sb,0,none⟩) ms.length ms.length,.slice (some ⟨bb,0,none⟩) ms.length ms.length,.slice none 0 0] 183)
 (hS:aq w' sb (kO (List.replicate ms.length false)).toArray 4)(hB:aq w' bb (kO (List.replicate ms.length false)).toArray 4)(h1:w.heap.size<=fb/\w.heap.size<=sb/\w.heap.size<=bb)(h2:fb≠sb/\fb≠bb/\sb≠bb):DT w lo hi mb c vs ms st G (.returned (.pointer (some ⟨fb,0,none⟩))) w':=
 ⟨⟨fb,sb,bb,lo,hi,mb,c,vs,ms,st,G⟩,rfl,⟨rfl,rfl,rfl,rfl,rfl,rfl,rfl,rfl⟩,⟨⟨0,0,.slice none 0 0,_,_,hF,⟨hS,by simp⟩,⟨hB,by simp⟩⟩,hM.kept k⟩,h1,h2,k⟩
theorem acY(hM:jt w lo hi mb c vs ms)(hn:ms.length<=4001):
 Calls prog 70 #[.agg #[.slice (some ⟨mb,0,none⟩) ms.length c,.int .i64 st,.int .i64 G]] w (DT w lo hi mb c vs ms st G):=by
 have HM:=ab hM;obtain⟨n,AV⟩:∃n,n=ms.length:=⟨_,rfl⟩
 obtain⟨ao,mj⟩:∃ao:Option Addr,ao=some ⟨mb,0,none⟩:=⟨_,rfl⟩
 rw[<-AV,<-mj];have rK:n<=4001:=by omega
 have B0:=aq.new w #[.slice ao n c,.int .i64 st,.int .i64 G] 73;have fG:Hid (∀W,aa af (w.alloc (.cells #[.slice ao n c,.int .i64 st,.int .i64 G] 73)) W->sq w.heap.size ao n c st G W):=fun W k=>sq.of (B0.kept k (fun hx=>hx))
 obtain⟨i0,cS,dm,dp,c_⟩:=Bp Tryz.aj2;obtain⟨Z,hZ⟩:∃Z,Z=madeCells (Value.bool false).cells ((n:Int).toNat*i0.size):=⟨_,rfl⟩
 have mk:∀W:World,(Instr.makeSlice 181 (.int .i64 (n:Int)) (.int .i64 (n:Int))).run prog W=.ok (.slice (some ⟨W.heap.size,0,none⟩) n n) (W.alloc (.cells Z 4)):=fun W=>by
  have:=run_makeSlice (P:=prog) W 181 4 i0 (.bool false) underlying181 cS dm .i64 .i64 (n:Int) (n:Int) (by omega) (Ce _) (by rw[dp];omega) (by rw[c_];omega) (by omega);rw[<-hZ]at this;simpa using this
 have HZ:Hid (Z=(kO (List.replicate n false)).toArray):=by show _=_;rw[hZ,dp];simp[akS]
 have ax:Hid (∀sb bb,((sb=w.heap.size+1/\bb=w.heap.size+1+1)\/(sb=w.heap.size+1+1/\bb=w.heap.size+1))->DT w lo hi mb c vs ms st G (.returned (.pointer (some ⟨w.heap.size+1+1+1,0,none⟩))) (((((w.alloc (.cells #[.slice ao n c,.int .i64 st,.int .i64 G] 73)).alloc (.cells Z 4)).alloc (.cells Z 4)).alloc (.cells #[.slice ao n c,.int .i64 st,.int .i64 G,.int .i32 0,.int .i32 0,.slice (some ⟨sb,0,none⟩) n n,.slice (some ⟨bb,0,none⟩) n n,.slice none 0 0] 183)).drew)):=fun sb bb Jl=>by
  have k:aa af w (((((w.alloc (.cells #[.slice ao n c,.int .i64 st,.int .i64 G] 73)).alloc (.cells Z 4)).alloc (.cells Z 4)).alloc (.cells #[.slice ao n c,.int .i64 st,.int .i64 G,.int .i32 0,.int .i32 0,.slice (some ⟨sb,0,none⟩) n n,.slice (some ⟨bb,0,none⟩) n n,.slice none 0 0] 183)).drew):=(((((aa.refl af w).alloc _).alloc _).alloc _).alloc _).drew;obtain⟨w1,pR⟩:∃w1,w1=w.alloc (.cells #[.slice ao n c,.int .i64 st,.int .i64 G] 73):=⟨_,rfl⟩
  have s1:w1.heap.size=w.heap.size+1:=by rw[pR];exact fO _ _
  have s2:(w1.alloc (.cells Z 4)).heap.size=w1.heap.size+1:=fO _ _;have s3:((w1.alloc (.cells Z 4)).alloc (.cells Z 4)).heap.size=w1.heap.size+1+1:=by rw[fO,s2]
  rw[<-pR]at k⊢;have b1:aq ((((w1.alloc (.cells Z 4)).alloc (.cells Z 4)).alloc (.cells #[.slice ao n c,.int .i64 st,.int .i64 G,.int .i32 0,.int .i32 0,.slice (some ⟨sb,0,none⟩) n n,.slice (some ⟨bb,0,none⟩) n n,.slice none 0 0] 183)).drew) w1.heap.size Z 4:=((aq.new w1 Z 4).alloc _).alloc _;have b2:aq ((((w1.alloc (.cells Z 4)).alloc (.cells Z 4)).alloc (.cells #[.slice ao n c,.int .i64 st,.int .i64 G,.int .i32 0,.int .i32 0,.slice (some ⟨sb,0,none⟩) n n,.slice (some ⟨bb,0,none⟩) n n,.slice none 0 0] 183)).drew) (w1.alloc (.cells Z 4)).heap.size Z 4:=(aq.new (w1.alloc (.cells Z 4)) Z 4).alloc _;have b3:=aq.new ((w1.alloc (.cells Z 4)).alloc (.cells Z 4)) #[.slice ao n c,.int .i64 st,.int .i64 G,.int .i32 0,.int .i32 0,.slice (some ⟨sb,0,none⟩) n n,.slice (some ⟨bb,0,none⟩) n n,.slice none 0 0] 183;rw[s1]at b1;rw[s2,s1]at b2;rw[s3,s1]at b3;have e1:n=ms.length:=AV;have e2:ao=some ⟨mb,0,none⟩:=mj;have L5:=HZ.o;rw[e1]at L5;rcases Jl with⟨rfl,rfl⟩|⟨rfl,rfl⟩
  ·refine DT.of hM k (fb:=w.heap.size+1+1+1) (sb:=w.heap.size+1) (bb:=w.heap.size+1+1) ?_ ?_ ?_ ⟨by omega,by omega,by omega⟩ ⟨by omega,by omega,by omega⟩
   ·rw[<-e1,<-e2];exact b3
   ·rw[<-L5];exact b1
   ·rw[<-L5];exact b2
  ·refine DT.of hM k (fb:=w.heap.size+1+1+1) (sb:=w.heap.size+1+1) (bb:=w.heap.size+1) ?_ ?_ ?_ ⟨by omega,by omega,by omega⟩ ⟨by omega,by omega,by omega⟩
   ·rw[<-e1,<-e2];exact b3
   ·rw[<-L5];exact b2
   ·rw[<-L5];exact b1
 clear B0 hZ cS dm dp c_ hM hn AV mj;go_enter func70,ntmps70;go_wp2_with fail;refine gW (S:=sq w.heap.size ao n c st G) 11 (by kernel_rfl) rfl rfl rfl (by kernel_rfl) (by kernel_rfl) ?_;have ak:=fG.o ((w.alloc (.cells #[.slice ao n c,.int .i64 st,.int .i64 G] 73)).drew) (aa.refl _ _).drew;refine ai 0 3 (.agg #[.slice ao n c,.int .i64 st,.int .i64 G]) ak ?_;refine ai 1 4 (.pointer (some ⟨w.heap.size,0,none⟩)) ak ?_;refine ai 2 5 (.slice ao n c) ak ?_;refine ai 3 6 (.int .i64 (n:Int)) ak ?_;refine ai 5 8 (.pointer (some ⟨w.heap.size,0,none⟩)) ak ?_;refine ai 6 9 (.slice ao n c) ak ?_;refine ai 7 10 (.int .i64 (n:Int)) ak ?_;simp only[Act.put,Aa,Ad,Ac];refine Gb (rs:=[4,8]) (by kernel_rfl) (by simp) (Dk rfl (fun K hK=>?_) (Dk rfl (fun K hK=>?_) Fu));all_goals go_simp
 all_goals refine hK.o _ _ (fG.o _ (by repeat first|exact aa.refl _ _|apply aa.alloc|apply aa.drew|apply aa.drewN)) (fun _=>?_)
 all_goals clear hK K
 ·refine bQ 8 fun K hK=>?_
  go_simp;refine hK.o _ _ (fG.o _ (by repeat first|exact aa.refl _ _|apply aa.alloc|apply aa.drew|apply aa.drewN)) (fun _=>?_);clear hK K;refine bQ 9 fun K hK=>?_
  go_simp;refine hK.o _ _ (fG.o _ (by repeat first|exact aa.refl _ _|apply aa.alloc|apply aa.drew|apply aa.drewN)) (fun _=>?_);clear hK K;refine bQ 10 fun K hK=>?_
  go_simp;refine hK.o _ _ (fG.o _ (by repeat first|exact aa.refl _ _|apply aa.alloc|apply aa.drew|apply aa.drewN)) (fun _=>?_);clear hK K;refine At (by kernel_rfl) ?_ _;unfold eN;simp only[Ak,Ah,Ai];go_simp;go_wp2_with fail;go_ret;exact ax.o _ _ (Or.inl ⟨rfl,rfl⟩)
 ·refine bQ 4 fun K hK=>?_
  go_simp;refine hK.o _ _ (fG.o _ (by repeat first|exact aa.refl _ _|apply aa.alloc|apply aa.drew|apply aa.drewN)) (fun _=>?_);clear hK K;refine bQ 9 fun K hK=>?_
  go_simp;refine hK.o _ _ (fG.o _ (by repeat first|exact aa.refl _ _|apply aa.alloc|apply aa.drew|apply aa.drewN)) (fun _=>?_);clear hK K;refine bQ 10 fun K hK=>?_
  go_simp;refine hK.o _ _ (fG.o _ (by repeat first|exact aa.refl _ _|apply aa.alloc|apply aa.drew|apply aa.drewN)) (fun _=>?_);clear hK K;refine At (by kernel_rfl) ?_ _;unfold eN;simp only[Ak,Ah,Ai];go_simp;go_wp2_with fail;go_ret;exact ax.o _ _ (Or.inr ⟨rfl,rfl⟩)
def Ze(w:World)(lo hi mb c:Nat)(vs:List Sv)(ms:List MS)(st G:Int):Ending->World->Prop:=fun e w'=>∃(eb:Nat) (g:FG),e=.returned (.pointer (some ⟨eb,0,none⟩))/\(g.lo=lo/\g.hi=hi/\g.mb=mb/\g.c=c/\g.vs=vs/\g.ms=ms/\g.st=st/\g.G=G)/\pE w' eb g (-1) false [] (.slice none 0 0) (.slice none 0 0)/\(w.heap.size<=eb/\w.heap.size<=g.fb/\w.heap.size<=g.sb/\w.heap.size<=g.bb)/\(g.fb≠g.sb/\g.fb≠g.bb/\g.sb≠g.bb)/\aa af w w'
theorem als(hM:jt w lo hi mb c vs ms)(hn:ms.length<=4001):
 Calls prog 46 #[.agg #[.slice (some ⟨mb,0,none⟩) ms.length c,.int .i64 st,.int .i64 G]] w (Ze w lo hi mb c vs ms st G):=by
 have B0:=aq.new w #[.slice (some ⟨mb,0,none⟩) ms.length c,.int .i64 st,.int .i64 G] 73;have fG:Hid (∀W,aa af (w.alloc (.cells #[.slice (some ⟨mb,0,none⟩) ms.length c,.int .i64 st,.int .i64 G] 73)) W->sq w.heap.size (some ⟨mb,0,none⟩) ms.length c st G W):=fun W k=>sq.of (B0.kept k (fun hx=>hx))
 have k0:aa af w ((w.alloc (.cells #[.slice (some ⟨mb,0,none⟩) ms.length c,.int .i64 st,.int .i64 G] 73)).drew):=((aa.refl af w).alloc _).drew;have F:=ab (acY (st:=st) (G:=G) (hM.kept k0) hn);have K0:=ab k0;have HM:=ab hM;clear B0 k0 hM;go_enter func46,ntmps46;go_wp2_with fail;refine gW (S:=sq w.heap.size (some ⟨mb,0,none⟩) ms.length c st G) 6 (by kernel_rfl) rfl rfl rfl (by kernel_rfl) (by kernel_rfl) ?_;have ak:=fG.o ((w.alloc (.cells #[.slice (some ⟨mb,0,none⟩) ms.length c,.int .i64 st,.int .i64 G] 73)).drew) (aa.refl _ _).drew;refine ai 0 3 (.pointer (some ⟨w.heap.size,1,none⟩)) ak ?_;refine ai 1 4 (.int .i64 st) ak ?_;refine ai 2 5 (.agg #[.slice (some ⟨mb,0,none⟩) ms.length c,.int .i64 st,.int .i64 G]) ak ?_;simp only[Act.put,Aa,Ad,Ac];refine bQ 3 fun K hK=>?_
 go_simp;refine(F.o).mono ?_;rintro e w5 ⟨g,rfl,e1,h5,e2,e3,k5⟩;dsimp only;have jl:=K0.o.size;have K5:=ab (((aa.refl af (w.alloc (.cells #[.slice (some ⟨mb,0,none⟩) ms.length c,.int .i64 st,.int .i64 G] 73))).drew).trans k5)
 have ax:Hid (Ze w lo hi mb c vs ms st G (.returned (.pointer (some ⟨w5.heap.size,0,none⟩))) (w5.alloc (.cells #[.int .i64 st,.pointer (some ⟨g.fb,0,none⟩),.int .i32 (-1),.slice none 0 0,.slice none 0 0,.bool false] 153))):=by
  have kk:aa af w w5:=K0.o.trans k5;have cW:=kk.size;have ka:aa af w5 (w5.alloc (.cells #[.int .i64 st,.pointer (some ⟨g.fb,0,none⟩),.int .i32 (-1),.slice none 0 0,.slice none 0 0,.bool false] 153)):=(aa.refl af w5).alloc _;obtain⟨_,_,_,s1,b1,hB,⟨hS,_⟩,⟨AA,_⟩⟩:=h5.ex;have f1:=hB.lt;have f2:=hS.lt;have f3:=AA.lt;have m1:=h5.ma.iw.lt;have m2:=h5.ma.le;have m3:=h5.ma.j8.lt;have sD:=e1;obtain⟨q1,q2,q3,q4,q5,q6,q7,q8⟩:=e1;refine⟨w5.heap.size,g,rfl,sD,⟨?_,A6 _ _ _ _,⟨0,[],A6 _ _ _ _⟩,h5.new ka,Ao _,fun t ht=>(by cases ht),⟨⟨by omega,by omega,by omega⟩,fun hx=>?_⟩,fun i hi=>(by cases hi),fun i hi=>(by cases hi),fun i hi=>(by cases hi)⟩,by omega,e3,kk.trans ka⟩
  ·rw[q7];exact aq.new w5 _ _
  ·rcases hx with(hx|hx)|(hx|hx)<;>omega
 refine hK.o _ _ (fG.o _ K5.o) (fun _=>?_);clear hK K F k5 e1 h5 e2 e3;refine bQ 4 fun K hK=>?_
 go_simp;refine hK.o _ _ (fG.o _ K5.o) (fun _=>?_);clear hK K;refine bQ 5 fun K hK=>?_
 go_simp;refine hK.o _ _ (fG.o _ (K5.o.alloc _)) (fun _=>?_);clear hK K;refine At (by kernel_rfl) ?_ _;unfold eN;simp only[Ak,Ah,Ai];go_simp;go_wp2_with fail;go_ret;exact ax.o
theorem WI{P:Program}{k:TypeId}{R:Value->Option (DataW Unit×List MemPlace)}{n:Nat}{D:DataW Unit}(h:w.ownsMap P k R b n D):b<w.heap.size:=by
 obtain⟨es,clock,hb,_⟩:=h;exact(Am.1 hb).1
theorem aq.ux(w:World)(cs:Array Value)(t:TypeId)(k:Nat)(hk:w.heap.size=k):aq (w.alloc (.cells cs t)) k cs t:=by subst hk;exact aq.new w cs t
structure OB(w0 wx:World)(lo hi mb c:Nat)(vs:List Sv)(ms:List MS)(u G mo:Int)(b mp:Nat)(f:FG)(cl:List Int)(ca:Option Addr)(cc cb:Nat):Prop where
 aj:aq wx b (pM u (.pointer (some ⟨f.fb,0,none⟩)) false (.slice ca cl.length cc) mo mp (.pointer none) (.slice none 0 0)) 159
 map:wx.ownsMap prog 9 lV mp 0 (.map [])
 par:f.lo=lo/\f.hi=hi/\f.mb=mb/\f.c=c/\f.vs=vs/\f.ms=ms/\f.st=u/\f.G=G
 fA:jc wx f
 cls:zt wx ca cb cl
 zJ:cl.Pairwise (· <= ·)
 ok:tA ms cl
 bJ:cl.length<=2000000
 low:(w0.heap.size<=b/\w0.heap.size<=mp/\w0.heap.size<=f.fb/\w0.heap.size<=f.sb/\w0.heap.size<=f.bb)/\(cl≠ []->w0.heap.size<=cb)
 ap:((f.fb≠f.sb/\f.fb≠f.bb/\f.sb≠f.bb)/\(b≠mp/\b≠f.fb/\b≠f.sb/\b≠f.bb)/\(mp≠f.fb/\mp≠f.sb/\mp≠f.bb))/\(cl≠ []->cb≠b/\cb≠mp/\cb≠f.fb/\cb≠f.sb/\cb≠f.bb)
 ltm:mp<wx.heap.size
 kept:aa af w0 wx
def KV(w:World)(lo hi mb c:Nat)(vs:List Sv)(ms:List MS)(u G mo:Int)(e:Ending)(w':World):Prop:=∃(eb p:Nat) (g:FG) (x:gY) (mv:Value),e=.returned (.pointer (some ⟨eb,0,none⟩))/\(g.lo=lo/\g.hi=hi/\g.mb=mb/\g.c=c/\g.vs=vs/\g.ms=ms/\g.st=u/\g.G=G)/\wG g x/\fF w' eb g x p (xE g.ms (-1)) [] mv/\(∀i,dy eb g x mv i->w.heap.size<=i)/\(x.m.cl≠ []->w.heap.size<=x.cb)/\aa af w w'
theorem akQ{i:Nat}(hq:f.cM i)(hp:f.lo=lo/\f.hi=hi/\f.mb=mb/\f.c=c/\f.vs=vs/\f.ms=ms/\f.st=u/\f.G=G)(h:jt w lo hi mb c vs ms):i<w.heap.size:=by
 have h1:=h.le;have h2:=h.j8.lt;have h3:=h.iw.lt;obtain⟨p1,p2,p3,_⟩:=hp;rcases hq with(hi|hi)|(hi|hi)
 ·rw[hi,p3];exact h3
 ·omega
 ·rw[hi];exact h2.1
 ·rw[hi];exact h2.2
theorem lH.empty{T:Nat->Option dt}(h:w.ownsMap prog 9 lV mp 0 (.map []))(gI:2<=mo/\mo<=1000000000):lH w mp mo T (.map []):=⟨adm h,by simp[Maps.size];omega,fun kl hk=>(by simp[Maps.has]at hk)⟩
def tg0:TG:=⟨fun _=>False,fun _=>none,fun _=>0⟩
def Q3(u mo:Int)(mp:Nat)(ca:Option Addr)(cb cc:Nat)(cl:List Int)(ms:List MS):gY:=⟨⟨ms,u,cl⟩,tg0,mp,mo,ca,cb,cc⟩
theorem aoG(w:World)(m:MC):iE w m tg0:=⟨fun b s h=>(by cases h),fun i h=>h.elim,fun b s h=>(by cases h)⟩
theorem OB.pre{wx:World}{cl:List Int}{ca:Option Addr}{cc cb:Nat}{ed:Bool}(h:OB w0 wx lo hi mb c vs ms u G mo b mp f cl ca cc cb)(hB:aq wr b (pM u (.pointer (some ⟨f.fb,0,none⟩)) ed (.slice ca cl.length cc) mo mp (.pointer none) (.slice none 0 0)) 159)(hK:aa (fun i=>i=b) wx wr)(iI:eW ms/\∃Q,iL Q ms)(hn:ms.length<=4001)(gI:2<=mo/\mo<=1000000000)(bC:0<=u/\u<ms.length)(hm:∀i,f.cM i->i<w0.heap.size)(he:ed=o_ f.ms):
 wG f (Q3 u mo mp ca cb cc cl ms)/\KU wr b f (Q3 u mo mp ca cb cc cl ms) (.pointer none) [] (.slice none 0 0)/\((∀i,dy b f (Q3 u mo mp ca cb cc cl ms) (.slice none 0 0) i->w0.heap.size<=i)/\(cl≠ []->w0.heap.size<=cb)):=by
 obtain⟨p1,p2,p3,p4,p5,p6,p7,p8⟩:=h.par;obtain⟨⟨a1,a2,a3⟩,a4⟩:=h.ap;have l:=h.low;have nm:∀i,w0.heap.size<=i->¬f.cM i:=fun i hi hx=>by have:=hm i hx;omega
 refine⟨⟨⟨by rw[p6];exact iI.1,by rw[p6];exact iI.2,by rw[p6];exact hn,a1,nm _ l.1.2.2.1,nm _ l.1.2.2.2.1,nm _ l.1.2.2.2.2⟩,⟨p6.symm,p7.symm⟩,by rw[p6,p7];exact bC,gI,h.zJ,h.bJ,h.ok⟩,⟨?_,A6 _ _ _ _,⟨.map [],?_⟩,aoG _ _,h.fA.kept hK (fun i hi=>?_),h.cls.kept hK (fun az hx=>(a4 az).1 hx),⟨a2.1,a2.2,a3,nm _ l.1.2.1,fun h=>h,fun h=>h,fun h=>h,fun h=>h,fun h=>h⟩,⟨nm _ l.1.1,fun i hi=>hi.elim⟩,As h.ltm hK.size,fun i hi=>(by cases hi),fun az hx=>?_⟩,fun i hi=>?_,l.2⟩
 ·rw[<-he,p7];exact hB
 ·exact lH.empty (jK h.map hK (fun hx=>a2.1 hx.symm)) (by show(2:Int)<=mo/\_;exact gI)
 ·rw[hi];exact⟨by omega,nm _ l.1.1⟩
 ·have:=a4 az;rcases hx with hx|hx|hx|hx|hx|hx|hx
  ·exact this.1 hx
  ·exact hx
  ·exact this.2.1 hx
  ·exact this.2.2.1 hx
  ·exact this.2.2.2.1 hx
  ·exact this.2.2.2.2 hx
  ·cases hx
 ·rcases hi with hi|hi|hi|hi|hi|hi|hi
  ·rw[hi];exact l.1.1
  ·exact hi.elim
  ·rw[hi];exact l.1.2.1
  ·rw[hi];exact l.1.2.2.1
  ·rw[hi];exact l.1.2.2.2.1
  ·rw[hi];exact l.1.2.2.2.2
  ·cases hi
theorem KV.of{w9:World}{x:gY}(hp:f.lo=lo/\f.hi=hi/\f.mb=mb/\f.c=c/\f.vs=vs/\f.ms=ms/\f.st=u/\f.G=G)(hO:wG f x)(hP:∃(p':Nat) (t':TG) (fC:Value),fF w9 b f (x.to0 t') p' (xE f.ms (-1)) [] fC/\cH (dy b f x (.slice none 0 0)) (dy b f (x.to0 t') fC) wr w9)(hl:(∀i,dy b f x (.slice none 0 0) i->w0.heap.size<=i)/\(x.m.cl≠ []->w0.heap.size<=x.cb))(h0:w.heap.size<=w0.heap.size)(k:aa af w wr):KV w lo hi mb c vs ms u G mo (.returned (.pointer (some ⟨b,0,none⟩))) w9:=by
 obtain⟨p',t',fC,h1,h2⟩:=hP;have hs:=k.size;refine⟨b,p',f,x.to0 t',fC,rfl,hp,hO.to0 t',h1,fun i hi=>?_,fun az=>Bb h0 (hl.2 az),k.yN h2.kept (fun i hi=>Bb h0 (hl.1 i hi))⟩;rcases h2.aj i hi with e|e
 ·exact Bb h0 (hl.1 i e)
 ·omega
theorem akm{base:Nat}{x:Int}(LS:jt w lo hi mb c vs ms)(h:oU w lo hi base (.slice (some ⟨mb,0,none⟩) ms.length c) ms)(az:0<ms.length)(hn:ms.length<=4001)(gI:2<=mo/\mo<=1000000000)(iI:eW ms/\∃Q,iL Q ms)(QC:0<=u/\u<ms.length):
 Calls prog 47 #[.agg #[.slice (some ⟨mb,0,none⟩) ms.length c,.int .i64 u,.int .i64 x],.int .i64 mo] w (KV w lo hi mb c vs ms u x mo):=by
 have Mm:=LS.le;have hWf:∀(v:Nat) (m:MS),ms[v]? =some m->m.kind=1->jS m.sp:=fun v m hm hk=>(iI.2.elim fun Q hQ=>(hQ m (Ca hm)).1 hk)
 obtain⟨n,Mt⟩:∃n,n=ms.length:=⟨_,rfl⟩
 have SE:=ab LS;have pH:=ab iI;have hgm:mb<w.heap.size:=LS.iw.lt;have uh:=QC;rw[<-Mt]at h az hn⊢;obtain⟨ao,mj⟩:∃ao:Option Addr,ao=some ⟨mb,0,none⟩:=⟨_,rfl⟩
 rw[<-mj]at h⊢;have B0:=aq.new w #[.slice ao n c,.int .i64 u,.int .i64 x] 73;have fG:Hid (∀W,aa af (w.alloc (.cells #[.slice ao n c,.int .i64 u,.int .i64 x] 73)) W->sq w.heap.size ao n c u x W):=fun W k=>sq.of (B0.kept k (fun hx=>hx))
 have HF:Hid (∀W,aa af (w.alloc (.cells #[.slice ao n c,.int .i64 u,.int .i64 x] 73)) W->Calls prog 70 #[.agg #[.slice ao n c,.int .i64 u,.int .i64 x]] W (DT W lo hi mb c vs ms u x)):=fun W k=>by
  rw[mj,Mt];exact acY (LS.kept (((aa.refl af w).alloc _).trans k)) (by omega)
 have HC:Hid (∀W,aa af (w.alloc (.cells #[.slice ao n c,.int .i64 u,.int .i64 x] 73)) W->Calls prog 71 #[.agg #[.slice ao n c,.int .i64 u,.int .i64 x]] W (XX W ms)):=fun W k=>by
  have k':aa af w W:=((aa.refl af w).alloc _).trans k;have h':=h.kept k' (fun _ _ _ hx=>hx) (fun _ _ hx=>hx) Mm;have:=agS (u:=u) (x:=x) h' (by have:=k'.size;omega) (by omega) (by omega) hWf;simp only[Wk]at this;exact this
 obtain⟨g,c',hv,hg,jx,bC⟩:=h.array (by omega);simp only[Bq]at hv;obtain⟨mx,nP,rfl⟩:=hv;clear nP;have eg:mb=g:=by rw[mj]at mx;simpa using mx
 subst eg;subst mj;clear mx;have lF:=ab bC;have SG:=ab Mt;clear B0 h bC Mt LS iI;go_enter func47,ntmps47;go_wp2_with fail;go_cut [5] (fun s5 wx=>∃(b mp:Nat) (f:FG) (cl:List Int) (ca:Option Addr) (cc cb:Nat),s5=.pointer (some ⟨b,0,none⟩)/\Hid (OB (w.alloc (.cells #[.slice (some ⟨mb,0,none⟩) n c,.int .i64 u,.int .i64 x] 73)) wx lo hi mb c vs ms u x mo b mp f cl ca cc cb))
 case first=>
  refine gW (S:=sq w.heap.size (some ⟨mb,0,none⟩) n c u x) 10 (by kernel_rfl) rfl rfl rfl (by kernel_rfl) (by kernel_rfl) ?_;have ak:=fG.o ((w.alloc (.cells #[.slice (some ⟨mb,0,none⟩) n c,.int .i64 u,.int .i64 x] 73)).drew) (aa.refl _ _).drew;refine ai 0 7 (.pointer (some ⟨w.heap.size,1,none⟩)) ak ?_;refine ai 1 8 (.int .i64 u) ak ?_;refine ai 2 9 (.agg #[.slice (some ⟨mb,0,none⟩) n c,.int .i64 u,.int .i64 x]) ak ?_;refine ai 4 11 (.agg #[.slice (some ⟨mb,0,none⟩) n c,.int .i64 u,.int .i64 x]) ak ?_;refine ai 6 13 (.int .i64 mo) ak ?_;simp only[Act.put,Aa,Ad,Ac];refine Gb (rs:=[3,7]) (by kernel_rfl) (by simp) (Dk rfl (fun K hK=>?_) (Dk rfl (fun K hK=>?_) Fu))
  ·go_simp;refine(HF.o _ (by first|exact(aa.refl _ _).drew|exact((aa.refl _ _).alloc _).drew)).mono ?_;rintro e w1 ⟨f,rfl,Np,MO,Na,ll,yG⟩;have j_:=ab (And.intro Np (And.intro MO (And.intro Na ll)));clear Np MO Na ll;dsimp only;have K1:=ab (((aa.refl af (w.alloc (.cells #[.slice (some ⟨mb,0,none⟩) n c,.int .i64 u,.int .i64 x] 73))).drew).trans yG);refine hK.o _ _ (fG.o _ K1.o) (fun _=>?_);clear hK K yG;refine Gb (rs:=[5,7]) (by kernel_rfl) (by simp) (Dk rfl (fun K hK=>?_) (Dk rfl (fun K hK=>?_) Fu))
   ·go_simp;have Kp:=ab j_.o.2.1;refine(HC.o _ (K1.o)).mono ?_;rintro e w2 ⟨cl,Le,cc,cb,rfl,at2,zK,CK,zU,ux,kF⟩;have iM:=ab (And.intro at2 (And.intro zK (And.intro CK (And.intro zU ux))));have tF:=ab (Kp.o.new kF);have gX:=ab (kF.size);clear at2 zK CK zU ux;dsimp only;have K2:=ab ((K1.o).trans kF);refine hK.o _ _ (fG.o _ K2.o) (fun _=>?_);clear hK K kF;refine bQ 7 fun K hK=>?_
    have HM:=ab (Ei (w2) prog 9 lV);go_simp;refine hK.o _ _ (fG.o _ (K2.o.alloc _)) (fun _=>?_);clear hK K;refine bQ 8 fun K hK=>?_
    go_simp;refine hK.o _ _ (fG.o _ (K2.o.alloc (.map #[] 0))) (fun _=>?_);clear hK K;refine bQ 9 fun K hK=>?_
    go_simp;refine hK.o _ _ (fG.o _ (aa.alloc (K2.o.alloc (.map #[] 0)) _)) (fun _=>?_);clear hK K;refine At (by kernel_rfl) ?_ _;unfold eN;simp only[Ak,Ah,Ai];go_simp;go_wp2_with fail;go_meet
    case rel=>
     obtain⟨_,_,_,_,_,y1,⟨y2,_⟩,⟨y3,_⟩⟩:=j_.o.2.1.ex;have z1:=y1.lt;have z2:=y2.lt;have z3:=y3.lt;have z4:=j_.o.2.2.1;have z5:=gX.o;have z6:=iM.o.2.2.2.2;have z7:=(fun az=>(iM.o.1.at_ az).2);have yz:=WI HM.o;have zk:=K1.o.size;have zd:=((aa.refl af (w.alloc (.cells #[.slice (some ⟨mb,0,none⟩) n c,.int .i64 u,.int .i64 x] 73))).drew).size;simp only[ij]at z4 z5 z6 z7 yz zk zd;refine⟨_,_,f,cl,Le,cc,cb,rfl,ab ⟨aq.ux _ _ _ _ (by simp),jK HM.o ((aa.refl af _).alloc _) (fun hx=>hx),j_.o.1,tF.o.new (((aa.refl af _).alloc _).alloc _),iM.o.1.kept (K:=af) (((aa.refl af _).alloc _).alloc _) (fun _ hx=>hx),iM.o.2.1,iM.o.2.2.1,iM.o.2.2.2.1,?_,?_,?_,aa.alloc (K2.o.alloc (.map #[] 0)) _⟩⟩
     ·(try simp only[ij])
      exact⟨⟨by omega,by omega,by omega,by omega,by omega⟩,fun az=>by have:=z6 az;omega⟩
     ·(try simp only[ij])
      exact⟨⟨j_.o.2.2.2,⟨by omega,by omega,by omega,by omega⟩,by omega,by omega,by omega⟩,fun az=>by have:=z6 az;have:=z7 az;omega⟩
     ·first|omega|(simp only[ij];omega)
   ·have HM:=ab (Ei (w1) prog 9 lV);go_simp;refine hK.o _ _ (fG.o _ (K1.o.alloc _)) (fun _=>?_);clear hK K;refine bQ 5 fun K hK=>?_
    go_simp;have Kp:=ab (j_.o.2.1.new ((aa.refl af w1).alloc (.map #[] 0)));refine(HC.o _ (K1.o.alloc _)).mono ?_;rintro e w2 ⟨cl,Le,cc,cb,rfl,at2,zK,CK,zU,ux,kF⟩;have iM:=ab (And.intro at2 (And.intro zK (And.intro CK (And.intro zU ux))));have tF:=ab (Kp.o.new kF);have gX:=ab (kF.size);clear at2 zK CK zU ux;dsimp only;have K2:=ab ((K1.o.alloc _).trans kF);refine hK.o _ _ (fG.o _ K2.o) (fun _=>?_);have uJ:=ab (jK HM.o kF (fun hx=>hx));clear hK K kF;refine bQ 8 fun K hK=>?_
    go_simp;refine hK.o _ _ (fG.o _ K2.o) (fun _=>?_);clear hK K;refine bQ 9 fun K hK=>?_
    go_simp;refine hK.o _ _ (fG.o _ (aa.alloc K2.o _)) (fun _=>?_);clear hK K;refine At (by kernel_rfl) ?_ _;unfold eN;simp only[Ak,Ah,Ai];go_simp;go_wp2_with fail;go_meet
    case rel=>
     obtain⟨_,_,_,_,_,y1,⟨y2,_⟩,⟨y3,_⟩⟩:=j_.o.2.1.ex;have z1:=y1.lt;have z2:=y2.lt;have z3:=y3.lt;have z4:=j_.o.2.2.1;have z5:=gX.o;have z6:=iM.o.2.2.2.2;have z7:=(fun az=>(iM.o.1.at_ az).2);have yz:=WI uJ.o;have zk:=K1.o.size;have zd:=((aa.refl af (w.alloc (.cells #[.slice (some ⟨mb,0,none⟩) n c,.int .i64 u,.int .i64 x] 73))).drew).size;simp only[ij]at z4 z5 z6 z7 yz zk zd;refine⟨_,_,f,cl,Le,cc,cb,rfl,ab ⟨aq.ux _ _ _ _ (by simp),jK uJ.o ((aa.refl af _).alloc _) (fun hx=>hx),j_.o.1,tF.o.new ((aa.refl af _).alloc _),iM.o.1.kept (K:=af) ((aa.refl af _).alloc _) (fun _ hx=>hx),iM.o.2.1,iM.o.2.2.1,iM.o.2.2.2.1,?_,?_,?_,aa.alloc K2.o _⟩⟩
     ·(try simp only[ij])
      exact⟨⟨by omega,by omega,by omega,by omega,by omega⟩,fun az=>by have:=z6 az;omega⟩
     ·(try simp only[ij])
      exact⟨⟨j_.o.2.2.2,⟨by omega,by omega,by omega,by omega⟩,by omega,by omega,by omega⟩,fun az=>by have:=z6 az;have:=z7 az;omega⟩
     ·first|omega|(simp only[ij];omega)
  ·have HM:Hid (World.ownsMap ((w.alloc (.cells #[.slice (some ⟨mb,0,none⟩) n c,.int .i64 u,.int .i64 x] 73)).alloc (.map #[] 0)) prog 9 lV (w.heap.size+1) 0 (.map [])):=ab (by rw[<-ij w (.cells #[.slice (some ⟨mb,0,none⟩) n c,.int .i64 u,.int .i64 x] 73)];exact Ei (w.alloc (.cells #[.slice (some ⟨mb,0,none⟩) n c,.int .i64 u,.int .i64 x] 73)) prog 9 lV);go_simp;refine hK.o _ _ (fG.o _ ((aa.refl af (w.alloc (.cells #[.slice (some ⟨mb,0,none⟩) n c,.int .i64 u,.int .i64 x] 73))).alloc _).drew) (fun _=>?_);clear hK K;refine bQ 3 fun K hK=>?_
   go_simp;refine(HF.o _ (by first|exact(aa.refl _ _).drew|exact((aa.refl _ _).alloc _).drew)).mono ?_;rintro e w1 ⟨f,rfl,Np,MO,Na,ll,yG⟩;have j_:=ab (And.intro Np (And.intro MO (And.intro Na ll)));clear Np MO Na ll;dsimp only;have K1:=ab ((((aa.refl af (w.alloc (.cells #[.slice (some ⟨mb,0,none⟩) n c,.int .i64 u,.int .i64 x] 73))).alloc (.map #[] 0)).drew).trans yG);refine hK.o _ _ (fG.o _ K1.o) (fun _=>?_);have si:=ab (jK (show World.ownsMap (((w.alloc (.cells #[.slice (some ⟨mb,0,none⟩) n c,.int .i64 u,.int .i64 x] 73)).alloc (.map #[] 0)).drew) prog 9 lV _ 0 (.map [])from HM.o) yG (fun hx=>hx));clear hK K yG;refine bQ 5 fun K hK=>?_
   go_simp;have Kp:=ab j_.o.2.1;refine(HC.o _ (K1.o)).mono ?_;rintro e w2 ⟨cl,Le,cc,cb,rfl,at2,zK,CK,zU,ux,kF⟩;have iM:=ab (And.intro at2 (And.intro zK (And.intro CK (And.intro zU ux))));have tF:=ab (Kp.o.new kF);have gX:=ab (kF.size);clear at2 zK CK zU ux;dsimp only;have K2:=ab ((K1.o).trans kF);refine hK.o _ _ (fG.o _ K2.o) (fun _=>?_);have uJ:=ab (jK si.o kF (fun hx=>hx));clear hK K kF;refine bQ 8 fun K hK=>?_
   go_simp;refine hK.o _ _ (fG.o _ K2.o) (fun _=>?_);clear hK K;refine bQ 9 fun K hK=>?_
   go_simp;refine hK.o _ _ (fG.o _ (aa.alloc K2.o _)) (fun _=>?_);clear hK K;refine At (by kernel_rfl) ?_ _;unfold eN;simp only[Ak,Ah,Ai];go_simp;go_wp2_with fail;go_meet
   case rel=>
    obtain⟨_,_,_,_,_,y1,⟨y2,_⟩,⟨y3,_⟩⟩:=j_.o.2.1.ex;have z1:=y1.lt;have z2:=y2.lt;have z3:=y3.lt;have z4:((w.alloc (.cells #[.slice (some ⟨mb,0,none⟩) n c,.int .i64 u,.int .i64 x] 73)).alloc (.map #[] 0)).heap.size<=f.fb/\((w.alloc (.cells #[.slice (some ⟨mb,0,none⟩) n c,.int .i64 u,.int .i64 x] 73)).alloc (.map #[] 0)).heap.size<=f.sb/\((w.alloc (.cells #[.slice (some ⟨mb,0,none⟩) n c,.int .i64 u,.int .i64 x] 73)).alloc (.map #[] 0)).heap.size<=f.bb:=j_.o.2.2.1;have z5:=gX.o;have z6:=iM.o.2.2.2.2;have z7:=(fun az=>(iM.o.1.at_ az).2);have yz:=WI uJ.o;have zk:=K1.o.size;have zd:=((aa.refl af ((w.alloc (.cells #[.slice (some ⟨mb,0,none⟩) n c,.int .i64 u,.int .i64 x] 73)).alloc (.map #[] 0))).drew).size;simp only[ij]at z4 z5 z6 z7 yz zk zd;refine⟨_,_,f,cl,Le,cc,cb,rfl,ab ⟨aq.ux _ _ _ _ (by simp),jK uJ.o ((aa.refl af _).alloc _) (fun hx=>hx),j_.o.1,tF.o.new ((aa.refl af _).alloc _),iM.o.1.kept (K:=af) ((aa.refl af _).alloc _) (fun _ hx=>hx),iM.o.2.1,iM.o.2.2.1,iM.o.2.2.2.1,?_,?_,?_,aa.alloc K2.o _⟩⟩
    ·(try simp only[ij])
     exact⟨⟨by omega,by omega,by omega,by omega,by omega⟩,fun az=>by have:=z6 az;omega⟩
    ·(try simp only[ij])
     exact⟨⟨j_.o.2.2.2,⟨by omega,by omega,by omega,by omega⟩,by omega,by omega,by omega⟩,fun az=>by have:=z6 az;have:=z7 az;omega⟩
    ·first|omega|(simp only[ij];omega)
 case rest=>
  obtain⟨b,mp,f,cl,ca,cc,cb,rfl,HP⟩:=hcut;have m0:=(fG.o _ HP.o.kept).1;have pd:=HP.o.low.1.1;simp only[ij]at pd;have HB:=ab HP.o.aj;clear HF HC;go_wp2_with fail;go_loopg [20] n (fun kk i wr=>∃(k:Nat) (ed:Bool),i=.int .i64 (k:Int)/\k<=n/\kk=n-k/\Hid (ed=(ms.take k).any fun m=>m.kind==2)/\Hid (aq wr b (pM u (.pointer (some ⟨f.fb,0,none⟩)) ed (.slice ca cl.length cc) mo mp (.pointer none) (.slice none 0 0)) 159)/\Hid (aa (fun i=>i=b) wc wr))
  case atStart=>exact⟨0,false,rfl,Ao _,rfl,ab (by simp),HB,aa.refl _ _⟩
  case round=>
   obtain⟨k,ed,rfl,hk,eZ,Su,jD,mM⟩:=hrel;clear HB;have e2:wr.cell? ⟨b,2,none⟩=some (.bool ed):=jD.o.cell 2;have f2:wr.frozen? ⟨b,2,none⟩=false:=jD.o.frozen 2;have gD:=jD.o.lt;have KW:aa af (w.alloc (.cells #[.slice (some ⟨mb,0,none⟩) n c,.int .i64 u,.int .i64 x] 73)) wr:=HP.o.kept.yN mM.o (fun i hi'=>by subst hi';simp only[ij];omega);have m0:=(fG.o _ KW).1;have Oz:=((aa.refl af w).alloc (.cells #[.slice (some ⟨mb,0,none⟩) n c,.int .i64 u,.int .i64 x] 73)).trans KW;by_cases aw:k<n
   ·have hit:(k:Int)<(n:Int):=(by omega);have U8:¬((n:Int)<=(k:Int)):=(by omega);have Vh:k<ms.length:=by have:=SG.o;omega
    obtain⟨q,hq,mu⟩:=lF.o k Vh;have d0:wr.cell? ⟨mb,k*6,none⟩=some (.int .i64 q.k):=(Oz.cell (p:=⟨mb,k*6,none⟩) hg (fun hx=>hx)).trans (mu 0 (by omega));have Ku:∀IM,Hid (aa (fun i=>i=b) wc (wr.setCell ⟨b,2,none⟩ (.bool IM))):=fun IM=>mM.o.setCell (p:=⟨b,2,none⟩) (Or.inl rfl) _
    have wt:∀IM,Hid (aq (wr.setCell ⟨b,2,none⟩ (.bool IM)) b (pM u (.pointer (some ⟨f.fb,0,none⟩)) IM (.slice ca cl.length cc) mo mp (.pointer none) (.slice none 0 0)) 159):=fun IM=>jD.o.setCell 2 _
    have Sw:Hid ((ed||q.k==2)=(ms.take (k+1)).any fun m=>m.kind==2):=by
     show _=_
     rw[C1 Vh,List.any_append,Su.o,hq.k];simp
    have Ku:=ab Ku;have wt:=ab wt;clear hq mu KW Oz jD mM Vh Su
    cases ed with
    |true=>
     have Kl:Hid (true=(ms.take (k+1)).any fun m=>m.kind==2):=Sw.o;go_wp2_with fail;go_roundg (n-(k+1))
     case measure=>omega
     case rel=>exact⟨k+1,true,by simp,by omega,rfl,Kl,wt.o _,Ku.o _⟩
    |false=>
     by_cases k2:q.k=2
     ·have kC:(q.k==2)=true:=(by simp[k2]);have Kl:Hid (true=(ms.take (k+1)).any fun m=>m.kind==2):=by rw[<-Sw.o,kC];exact rfl
      clear k2;go_wp2_with fail;go_roundg (n-(k+1))
      case measure=>omega
      case rel=>exact⟨k+1,true,by simp,by omega,rfl,Kl,wt.o _,Ku.o _⟩
     ·have kC:(q.k==2)=false:=(by simp[k2]);have Kl:Hid (false=(ms.take (k+1)).any fun m=>m.kind==2):=by rw[<-Sw.o,kC];exact rfl
      clear k2;go_wp2_with fail;go_roundg (n-(k+1))
      case measure=>omega
      case rel=>exact⟨k+1,false,by simp,by omega,rfl,Kl,wt.o _,Ku.o _⟩
   ·have gy:k=n:=(by omega);subst gy;have hit:¬((k:Int)<(k:Int)):=by omega
    have he:ed=o_ f.ms:=by
     rw[Su.o,SG.o,Cn,HP.o.par.2.2.2.2.2.1];rfl
    subst he;obtain⟨OK,Zj,KS⟩:=OB.pre HP.o jD.o mM.o pH.o (by have:=SG.o;omega) gI QC (fun i hi=>by have:=akQ hi HP.o.par SE.o;simp only[ij];omega) rfl;have F:=ab (acm (c:= -1) OK Zj);have ax:Hid (∀e w9,Sd wr b f (Q3 u mo mp ca cb cc cl ms) (.slice none 0 0) (-1) e w9->e=.returned (.tuple #[])/\KV w lo hi mb c vs ms u x mo (.returned (.pointer (some ⟨b,0,none⟩))) w9):=(fun e w9 P=>⟨P.1,KV.of HP.o.par OK P.2 KS (by simp only[ij];omega) Oz⟩);clear KW Oz jD OK Zj KS;go_wp2_with fail;refine(F.o).mono ?_;intro e w9 P;obtain⟨rfl,P9⟩:=ax.o e w9 P;have DM:=ab P9;clear P P9 F ax;go_wp2_with fail;go_ret;exact DM.o
theorem Xr{ah:Int}(h:pD ms A ah)(l:List bG):aZ ms ah bh l=aZ ms A bh l:=by
 have hs:DW ms A ah bh bh:=⟨fun u m hm hk=>rfl,fun u m hm hk=>h u m hm hk bh⟩;have:=Xs hs (fun x=>x) l;rw[Rt,Rt]at this;rw[this];refine Prod.ext rfl ?_;show(aZ ms A bh l).2.map (fun x=>x)=_
 cases(aZ ms A bh l).2<;>rfl
def Z0(s:dt):Prop:=∀t,s.aV.head?=some t->t.2=0
theorem anm(l:List bG):∀t,(fM l).1.head?=some t->t.2=0:=by
 intro t ht
 cases l with
 |nil=>simp[fM,gB]at ht
 |cons a bs=>
  have e:(fM (a::bs)).1.head?=some (a.1,((db [] a.2).length:Int)-1):=rfl;rw[e]at ht
  cases ht;rfl
theorem ahW{s:dt}{M:List Int}(hz:Z0 s)(hr:∀t∈s.aV,0<=t.2)(hl:M.length=jo s.aV):M.headD 0=((uX M s.aV).head?.map (·.2)).getD 0/\(!M.isEmpty)=(!(uX M s.aV).isEmpty):=by
 cases hs:s.aV with
 |nil=>
  rw[hs]at hl;have:M=[]:=Ax.1 hl;subst this;exact⟨rfl,rfl⟩
 |cons t ts=>
  have h0:=hz t (by rw[hs];rfl)
  have h1:0<M.length:=by
   rw[hl,hs];unfold jo;rw[Ec (by simp)];have:=hr _ (by rw[hs];exact List.getLast_mem (List.cons_ne_nil t ts));show 0<(((t::ts).getLast _).2+1).toNat
   omega
  cases M with
  |nil=>simp at h1
  |cons v vs=>
   refine⟨?_,rfl⟩;show v=gz (v::vs) t.2
   rw[h0];rfl
def pW(st p:Int)(mt:Bool)(l:List bG):List bG:=if mt then l else l++[(st,p)]
theorem alc(x:Value)(n:Nat)(w:World):(method (n+9) 125 x "Step").run prog w=.ok (227,x) w:=by kernel_rfl
theorem agD(a:Array Value)(w:World):(callFunc 227 a).run prog w=.ok (.enter 227 a) w:=by kernel_rfl
theorem ala(x:Value)(n:Nat)(w:World):(method (n+9) 125 x "First").run prog w=.ok (225,x) w:=by kernel_rfl
theorem agA(a:Array Value)(w:World):(callFunc 225 a).run prog w=.ok (.enter 225 a) w:=by kernel_rfl
theorem ak9(x:Value)(n:Nat)(w:World):(method (n+9) 125 x "Begin").run prog w=.ok (224,x) w:=by kernel_rfl
theorem agw(a:Array Value)(w:World):(callFunc 224 a).run prog w=.ok (.enter 224 a) w:=by kernel_rfl
theorem alb(x:Value)(n:Nat)(w:World):(method (n+9) 127 x "Step").run prog w=.ok (233,x) w:=by kernel_rfl
theorem agC(a:Array Value)(w:World):(callFunc 233 a).run prog w=.ok (.enter 233 a) w:=by kernel_rfl
theorem ak_(x:Value)(n:Nat)(w:World):(method (n+9) 127 x "First").run prog w=.ok (231,x) w:=by kernel_rfl
theorem agz(a:Array Value)(w:World):(callFunc 231 a).run prog w=.ok (.enter 231 a) w:=by kernel_rfl
theorem ak8(x:Value)(n:Nat)(w:World):(method (n+9) 127 x "Begin").run prog w=.ok (72,x) w:=by kernel_rfl
theorem agv(a:Array Value)(w:World):(callFunc 72 a).run prog w=.ok (.enter 72 a) w:=by kernel_rfl
structure afp(w:World)(ev:Value)(ms:List MS)(st A:Int)(mt:Bool)(l:List bG)(au fix:Nat->Prop)(eb:Nat)(g:FG)(lv sv:Value)(ah:Int):Prop where
 ev:ev=.iface 125 (.pointer (some ⟨eb,0,none⟩))
 ok:g.Ok
 par:(g.ms=ms/\g.st=st)/\0<=g.st/\g.st<g.ms.length
 IB:pD ms A ah
 at_:pE w eb g ah mt l lv sv
 au:au=lh eb g lv sv
 fix:fix=g.cM
structure afo(w:World)(ev:Value)(ms:List MS)(st A:Int)(mt:Bool)(l:List bG)(au fix:Nat->Prop)(eb:Nat)(g:FG)(x:gY)(p:Nat)(s:dt)(M:List Int)(mv:Value):Prop where
 ev:ev=.iface 127 (.pointer (some ⟨eb,0,none⟩))
 ok:wG g x
 par:g.ms=ms/\g.st=st
 IB:pD ms A s.ah
 mt:mt=s.mt
 l:l=uX M s.aV
 len:M.length=jo s.aV
 z:Z0 s
 at_:fF w eb g x p s M mv
 au:au=dy eb g x mv
 fix:fix=fun i=>g.cM i\/(x.m.cl≠ []/\i=x.cb)
def l_(w:World)(ev:Value)(ms:List MS)(st A:Int)(mt:Bool)(l:List bG)(au fix:Nat->Prop):Prop:=
 (∃eb g lv sv ah,afp w ev ms st A mt l au fix eb g lv sv ah)\/∃eb g x p s M mv,afo w ev ms st A mt l au fix eb g x p s M mv
theorem l_.kept{K:Nat->Prop}(h:l_ w ev ms st A mt l au fix)(k:aa K w w')(hK:∀i,K i->¬au i/\¬fix i):l_ w' ev ms st A mt l au fix:=by
 rcases h with⟨eb,g,lv,sv,ah,h⟩|⟨eb,g,x,p,s,M,mv,h⟩
 ·exact Or.inl ⟨eb,g,lv,sv,ah,h.ev,h.ok,h.par,h.IB,h.at_.kept k (fun i hi=>by have:=hK i hi;rw[h.au,h.fix]at this;exact this),h.au,h.fix⟩
 ·exact Or.inr ⟨eb,g,x,p,s,M,mv,h.ev,h.ok,h.par,h.IB,h.mt,h.l,h.len,h.z,h.at_.kept k (fun i hi=>by have:=hK i hi;rw[h.au,h.fix]at this;exact⟨⟨this.1,fun hx=>this.2 (Or.inl hx)⟩,fun az e=>this.2 (Or.inr ⟨az,e⟩)⟩),h.au,h.fix⟩
theorem l_.new(h:l_ w ev ms st A mt l au fix)(k:aa af w w'):l_ w' ev ms st A mt l au fix:=h.kept k (fun _ hx=>hx.elim)
theorem l_.lt(h:l_ w ev ms st A mt l au fix):(∀i,au i->i<w.heap.size)/\∀i,fix i->i<w.heap.size:=by
 rcases h with⟨eb,g,lv,sv,ah,h⟩|⟨eb,g,x,p,s,M,mv,h⟩
 ·rw[h.au,h.fix];refine⟨fun i hi=>?_,fun i hi=>uv h.at_.fA hi⟩;obtain⟨_,_,_,_,_,x1,⟨x2,_⟩,⟨x3,_⟩⟩:=h.at_.fA.ex;obtain⟨n,xs,hs⟩:=h.at_.sp;rcases hi with hi|((hi|hi|hi)|hi)|hi
  ·rw[hi];exact h.at_.aj.lt
  ·rw[hi];exact x1.lt
  ·rw[hi];exact x2.lt
  ·rw[hi];exact x3.lt
  ·exact(dE h.at_.ls hi).2
  ·exact(dE hs hi).2
 ·rw[h.au,h.fix];refine⟨fun i hi=>h.at_.gR hi,fun i hi=>?_⟩;rcases hi with hi|⟨az,hi⟩
  ·exact uv h.at_.fA hi
  ·rw[hi];exact(h.at_.cls.at_ az).2
def StE(w:World)(ev:Value)(ms:List MS)(st A:Int)(mt:Bool)(l:List bG)(au fix:Nat->Prop)(place bh:Int)(e:Ending)(w':World):Prop:=
 e=.returned (.tuple #[.int .i64 ((aZ ms A bh (pW st place mt l)).2.getD 0),.bool (aZ ms A bh (pW st place mt l)).2.isSome])/\∃cF,l_ w' ev ms st bh (mt||(aZ ms A bh (pW st place mt l)).2.isSome) (aZ ms A bh (pW st place mt l)).1 cF fix/\cH au cF w w'
theorem l_.step{place:Int}(h:l_ w ev ms st A mt l au fix)(hb:0<=bh/\bh<=1114111):
 ∃(T:TypeId) (xv:Value) (fn:Nat),ev=.iface T xv/\(∀n W,(method (n+9) T xv "Step").run prog W=.ok (fn,xv) W)/\(∀a W,(callFunc fn a).run prog W=.ok (.enter fn a) W)/\Calls prog fn #[xv,.int .i64 place,.int .i32 bh] w (StE w ev ms st A mt l au fix place bh):=by
 rcases h with⟨eb,g,lv,sv,ah,h⟩|⟨eb,g,x,p,s,M,mv,h⟩
 ·refine⟨_,_,_,h.ev,alc _,agD,(aiD h.ok h.par.2 hb h.at_).mono ?_⟩;rintro e w' ⟨rfl,de,xF,h1,h2⟩;have en:uz g place mt l=pW st place mt l:=by unfold uz pW;rw[h.par.1.2]
  rw[en,h.par.1.1,Xr h.IB]at h1;refine⟨by rw[en,h.par.1.1,Xr h.IB],lh eb g de xF,Or.inl ⟨eb,g,de,xF,bh,h.ev,h.ok,h.par,fun _ _ _ _ _=>rfl,h1,rfl,h.fix⟩,?_⟩;rw[h.au];exact h2
 ·refine⟨_,_,_,h.ev,alb _,agC,(akn h.ok hb h.at_ h.len).mono ?_⟩;rintro e w' ⟨t',p',fC,rfl,h1,h2⟩;have dD:=(h.at_.nf.ok p s h.at_.qN).1;have e1:x.m.ms=ms:=h.ok.ms.1.trans h.par.1;have e2:x.m.st=st:=h.ok.ms.2.trans h.par.2;have iI:eW x.m.ms:=by rw[h.ok.ms.1];exact h.ok.ok.fL
  have L6:=al8 (st:=x.m.st) (j7:=jL x.m.ms bh) (p:=place) (ah:=s.ah) (bh:=bh) (nC:=bh) dD h.len ⟨fun _ _ _ _=>rfl,fun _ _ _ _=>rfl⟩;have ajt:=alK dD h.len x.m.st place
  have hN:uX (mA s M place) (dx x.m.st s)=pW st place mt l:=by
   rw[ajt,<-h.l,e2];unfold pW;rw[h.mt]
  rw[hN,e1,Xr h.IB]at L6;have hO:mC ms x.m.st (jL ms bh) bh s=x.m.o bh s:=by unfold MC.o;rw[e1]
  rw[hO]at L6;have hx:=RJ iI s.ah bh (dx x.m.st s);obtain⟨r1,r2,r3,r4,r5⟩:=WC (st:=x.m.st) (j7:=jL x.m.ms bh) iI dD hx (aeL _ _ _ _);have PB:mC x.m.ms x.m.st (jL x.m.ms bh) bh s=x.m.o bh s:=rfl;rw[PB]at r2;refine⟨?_,dy eb g (x.to0 t') fC,Or.inr ⟨eb,g,x.to0 t',p',(x.m.o bh s).1,_,fC,h.ev,h.ok.to0 t',h.par,?_,?_,?_,?_,?_,h1,rfl,h.fix⟩,?_⟩
  ·rw[L6];congr 5
   cases(x.m.o bh s).2.2<;>rfl
  ·show pD ms bh (jL x.m.ms bh)
   rw[e1];exact Xq ms bh
  ·rw[L6,h.mt];show(s.mt||((x.m.o bh s).2.2.map _).isSome)=(s.mt||(x.m.o bh s).2.2.isSome)
   cases(x.m.o bh s).2.2<;>rfl
  ·rw[L6]
  ·rw[Db];exact r2
  ·exact anm _
  ·rw[h.au];exact h2
theorem l_.first(h:l_ w ev ms st A mt l au fix):
 ∃(T:TypeId) (xv:Value) (fn:Nat),ev=.iface T xv/\(∀n W,(method (n+9) T xv "First").run prog W=.ok (fn,xv) W)/\(∀a W,(callFunc fn a).run prog W=.ok (.enter fn a) W)/\Calls prog fn #[xv] w fun e w'=>e=.returned (.tuple #[.int .i64 ((l.head?.map (·.2)).getD 0),.bool (!l.isEmpty)])/\w'=w:=by
 rcases h with⟨eb,g,lv,sv,ah,h⟩|⟨eb,g,x,p,s,M,mv,h⟩
 ·exact⟨_,_,_,h.ev,ala _,agA,aiy h.at_⟩
 ·refine⟨_,_,_,h.ev,ak_ _,agz,(akk h.at_).mono ?_⟩;rintro e w' ⟨rfl,rfl⟩;have:=ahW h.z (fun t ht=>((h.at_.nf.ok p s h.at_.qN).1.rg t ht).1) h.len;rw[h.l,this.1,this.2];exact⟨rfl,rfl⟩
def BgE(w:World)(ev:Value)(ms:List MS)(st:Int)(au fix:Nat->Prop)(c:Int)(e:Ending)(w':World):Prop:=e=.returned (.tuple #[])/\∃cF,l_ w' ev ms st c false [] cF fix/\cH au cF w w'
theorem l_.begin{c:Int}(h:l_ w ev ms st A mt l au fix):
 ∃(T:TypeId) (xv:Value) (fn:Nat),ev=.iface T xv/\(∀n W,(method (n+9) T xv "Begin").run prog W=.ok (fn,xv) W)/\(∀a W,(callFunc fn a).run prog W=.ok (.enter fn a) W)/\Calls prog fn #[xv,.int .i32 c] w (BgE w ev ms st au fix c):=by
 rcases h with⟨eb,g,lv,sv,ah,h⟩|⟨eb,g,x,p,s,M,mv,h⟩
 ·refine⟨_,_,_,h.ev,ak9 _,agw,(aiw h.at_).mono ?_⟩;rintro e w' ⟨rfl,de,h1,h2⟩;refine⟨rfl,lh eb g de sv,Or.inl ⟨eb,g,de,sv,c,h.ev,h.ok,h.par,fun _ _ _ _ _=>rfl,h1,rfl,h.fix⟩,?_⟩;rw[h.au];exact h2
 ·refine⟨_,_,_,h.ev,ak8 _,agv,(acm h.ok h.at_.pre).mono ?_⟩;rintro e w' ⟨rfl,p',t',fC,h1,h2⟩;refine⟨rfl,dy eb g (x.to0 t') fC,Or.inr ⟨eb,g,x.to0 t',p',xE g.ms c,[],fC,h.ev,h.ok.to0 t',h.par,?_,rfl,rfl,rfl,fun t ht=>(by cases ht),h1,rfl,h.fix⟩,?_⟩
  ·show pD ms c (jL g.ms c)
   rw[h.par.1];exact Xq ms c
  ·rw[h.au];exact h2
