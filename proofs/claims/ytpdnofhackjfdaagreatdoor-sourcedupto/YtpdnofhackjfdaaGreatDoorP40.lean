/- Package threads -/
import Derived.Test.YtpdnofhackjfdaaGreatDoorP39
set_option linter.all false
set_option maxRecDepth 100000
set_option maxHeartbeats 4000000
namespace Go.Proofs.YtpdnofhackjfdaaGreatDoor
open Go.Proofs.Tryz
open Go.RowKit Go.Maps
variable {mt:Bool} {f:FG} {A G bh mo st u:Int} {ms:List MS} {vs:List Sv} {l:List bJ} {b c hi lo mb mp:Nat} {fix ay:Nat->Prop} {ev:Value} {w w' w0 wr:World}
theorem alq(n:Nat):madeCells (Value.bool false).cells n=(kU (List.replicate n false)).toArray:=by
 unfold madeCells kU;have e:(Value.bool false).cells=#[Value.bool false]:=rfl;rw[e];refine Array.ext (by simp) fun i h1 h2=>?_
 simp[Gl]
def FE(w:World)(lo hi mb c:Nat)(vs:List Sv)(ms:List MS)(st G:Int):Ending->World->Prop:=fun e w'=>∃g:FG,e=.returned (BT g.fb 0)/\(g.lo=lo/\g.hi=hi/\g.mb=mb/\g.c=c/\g.vs=vs/\g.ms=ms/\g.st=st/\g.G=G)/\jh w' g/\(w.heap.size<=g.fb/\w.heap.size<=g.sb/\w.heap.size<=g.bb)/\(g.fb≠g.sb/\g.fb≠g.bb/\g.sb≠g.bb)/\aa ai w w'
theorem FE.of(hM:jj w lo hi mb c vs ms){fb sb bb:Nat}(k:aa ai w w')
 (hF:au w' fb #[.slice (some (GB mb 0)) ms.length c,GW st,GW G,.int .i32 0,.int .i32 0,.slice (some (GB sb 0)) ms.length ms.length,.slice (some (GB bb 0)) ms.length ms.length,.slice none 0 0] 183)
 (hS:au w' sb (kU (List.replicate ms.length false)).toArray 4)(hB:au w' bb (kU (List.replicate ms.length false)).toArray 4)(h1:w.heap.size<=fb/\w.heap.size<=sb/\w.heap.size<=bb)(h2:fb≠sb/\fb≠bb/\sb≠bb):FE w lo hi mb c vs ms st G (.returned (BT fb 0)) w':=
 ⟨⟨fb,sb,bb,lo,hi,mb,c,vs,ms,st,G⟩,rfl,⟨rfl,rfl,rfl,rfl,rfl,rfl,rfl,rfl⟩,⟨⟨0,0,.slice none 0 0,_,_,hF,⟨hS,by simp⟩,⟨hB,by simp⟩⟩,hM.kept k⟩,h1,h2,k⟩
theorem adJ(hM:jj w lo hi mb c vs ms)(hn:ms.length<=4001):
 Calls prog 70 #[.agg #[.slice (some (GB mb 0)) ms.length c,GW st,GW G]] w (FE w lo hi mb c vs ms st G):=by
 have HM:=ab hM;obtain⟨n,CO⟩:∃n,n=ms.length:=⟨_,rfl⟩
 obtain⟨ao,mA⟩:∃ao:Option Addr,ao=some (GB mb 0):=⟨_,rfl⟩
 rw[<-CO,<-mA];have si:n<=4001:=by omega
 have B0:=au.new w #[.slice ao n c,GW st,GW G] 73;have fN:Hid (∀W,aa ai (w.alloc (.cells #[.slice ao n c,GW st,GW G] 73)) W->sN w.heap.size ao n c st G W):=fun W k=>sN.of (B0.kept k (fun hx=>hx))
 obtain⟨i0,cW,dm,du,de⟩:=Bo Tryz.akD;obtain⟨Z,hZ⟩:∃Z,Z=madeCells (Value.bool false).cells ((n:Int).toNat*i0.size):=⟨_,rfl⟩
 have mk:∀W:World,(Instr.makeSlice 181 (GW (n:Int)) (GW (n:Int))).run prog W=.ok (.slice (some (GB W.heap.size 0)) n n) (W.alloc (.cells Z 4)):=fun W=>by
  have:=run_makeSlice (P:=prog) W 181 4 i0 (.bool false) underlying181 cW dm .i64 .i64 (n:Int) (n:Int) (by omega) (Cm _) (by rw[du];omega) (by rw[de];omega) (by omega);rw[<-hZ]at this;simpa using this
 have HZ:Hid (Z=(kU (List.replicate n false)).toArray):=by show _=_;rw[hZ,du];simp[alq]
 have aA:Hid (∀sb bb,((sb=w.heap.size+1/\bb=w.heap.size+1+1)\/(sb=w.heap.size+1+1/\bb=w.heap.size+1))->FE w lo hi mb c vs ms st G (.returned (.pointer (some ⟨w.heap.size+1+1+1,0,none⟩))) (((((w.alloc (.cells #[.slice ao n c,GW st,GW G] 73)).alloc (.cells Z 4)).alloc (.cells Z 4)).alloc (.cells #[.slice ao n c,GW st,GW G,.int .i32 0,.int .i32 0,.slice (some (GB sb 0)) n n,.slice (some (GB bb 0)) n n,.slice none 0 0] 183)).drew)):=fun sb bb xO=>by
  have k:aa ai w (((((w.alloc (.cells #[.slice ao n c,GW st,GW G] 73)).alloc (.cells Z 4)).alloc (.cells Z 4)).alloc (.cells #[.slice ao n c,GW st,GW G,.int .i32 0,.int .i32 0,.slice (some (GB sb 0)) n n,.slice (some (GB bb 0)) n n,.slice none 0 0] 183)).drew):=(((((aa.refl ai w).alloc _).alloc _).alloc _).alloc _).drew;obtain⟨w1,oM⟩:∃w1,w1=w.alloc (.cells #[.slice ao n c,GW st,GW G] 73):=⟨_,rfl⟩
  have s1:w1.heap.size=w.heap.size+1:=by rw[oM];exact fP _ _
  have s2:(w1.alloc (.cells Z 4)).heap.size=w1.heap.size+1:=fP _ _;have s3:((w1.alloc (.cells Z 4)).alloc (.cells Z 4)).heap.size=w1.heap.size+1+1:=by rw[fP,s2]
  rw[<-oM]at k⊢;have b1:au ((((w1.alloc (.cells Z 4)).alloc (.cells Z 4)).alloc (.cells #[.slice ao n c,GW st,GW G,.int .i32 0,.int .i32 0,.slice (some (GB sb 0)) n n,.slice (some (GB bb 0)) n n,.slice none 0 0] 183)).drew) w1.heap.size Z 4:=((au.new w1 Z 4).alloc _).alloc _;have b2:au ((((w1.alloc (.cells Z 4)).alloc (.cells Z 4)).alloc (.cells #[.slice ao n c,GW st,GW G,.int .i32 0,.int .i32 0,.slice (some (GB sb 0)) n n,.slice (some (GB bb 0)) n n,.slice none 0 0] 183)).drew) (w1.alloc (.cells Z 4)).heap.size Z 4:=(au.new (w1.alloc (.cells Z 4)) Z 4).alloc _;have b3:=au.new ((w1.alloc (.cells Z 4)).alloc (.cells Z 4)) #[.slice ao n c,GW st,GW G,.int .i32 0,.int .i32 0,.slice (some (GB sb 0)) n n,.slice (some (GB bb 0)) n n,.slice none 0 0] 183;rw[s1]at b1;rw[s2,s1]at b2;rw[s3,s1]at b3;have e1:n=ms.length:=CO;have e2:ao=some (GB mb 0):=mA;have MT:=HZ.o;rw[e1]at MT;rcases xO with⟨rfl,rfl⟩|⟨rfl,rfl⟩
  ·refine FE.of hM k (fb:=w.heap.size+1+1+1) (sb:=w.heap.size+1) (bb:=w.heap.size+1+1) ?_ ?_ ?_ ⟨by omega,by omega,by omega⟩ ⟨by omega,by omega,by omega⟩
   ·rw[<-e1,<-e2];exact b3
   ·rw[<-MT];exact b1
   ·rw[<-MT];exact b2
  ·refine FE.of hM k (fb:=w.heap.size+1+1+1) (sb:=w.heap.size+1+1) (bb:=w.heap.size+1) ?_ ?_ ?_ ⟨by omega,by omega,by omega⟩ ⟨by omega,by omega,by omega⟩
   ·rw[<-e1,<-e2];exact b3
   ·rw[<-MT];exact b2
   ·rw[<-MT];exact b1
 clear B0 hZ cW dm du de hM hn CO mA;go_enter func70,ntmps70;go_wp2_with fail;refine gD (S:=sN w.heap.size ao n c st G) 11 (by kernel_rfl) rfl rfl rfl (by kernel_rfl) (by kernel_rfl) ?_;have ak:=fN.o ((w.alloc (.cells #[.slice ao n c,GW st,GW G] 73)).drew) (aa.refl _ _).drew;refine aj 0 3 (.agg #[.slice ao n c,GW st,GW G]) ak ?_;refine aj 1 4 (BT w.heap.size 0) ak ?_;refine aj 2 5 (.slice ao n c) ak ?_;refine aj 3 6 (GW (n:Int)) ak ?_;refine aj 5 8 (BT w.heap.size 0) ak ?_;refine aj 6 9 (.slice ao n c) ak ?_;refine aj 7 10 (GW (n:Int)) ak ?_;simp only[Act.put,Aa,Ad,Ac];refine Ge (rs:=[4,8]) (by kernel_rfl) (by simp) (Dl rfl (fun K hK=>?_) (Dl rfl (fun K hK=>?_) Fu));all_goals go_simp
 all_goals refine hK.o _ _ (fN.o _ (by repeat first|exact aa.refl _ _|apply aa.alloc|apply aa.drew|apply aa.drewN)) (fun _=>?_)
 all_goals clear hK K
 ·refine bR 8 fun K hK=>?_
  go_simp;refine hK.o _ _ (fN.o _ (by repeat first|exact aa.refl _ _|apply aa.alloc|apply aa.drew|apply aa.drewN)) (fun _=>?_);clear hK K;refine bR 9 fun K hK=>?_
  go_simp;refine hK.o _ _ (fN.o _ (by repeat first|exact aa.refl _ _|apply aa.alloc|apply aa.drew|apply aa.drewN)) (fun _=>?_);clear hK K;refine bR 10 fun K hK=>?_
  go_simp;refine hK.o _ _ (fN.o _ (by repeat first|exact aa.refl _ _|apply aa.alloc|apply aa.drew|apply aa.drewN)) (fun _=>?_);clear hK K;refine At (by kernel_rfl) ?_ _;unfold eo;simp only[Ak,Ag,Ah];go_simp;go_wp2_with fail;go_ret;exact aA.o _ _ (Or.inl ⟨rfl,rfl⟩)
 ·refine bR 4 fun K hK=>?_
  go_simp;refine hK.o _ _ (fN.o _ (by repeat first|exact aa.refl _ _|apply aa.alloc|apply aa.drew|apply aa.drewN)) (fun _=>?_);clear hK K;refine bR 9 fun K hK=>?_
  go_simp;refine hK.o _ _ (fN.o _ (by repeat first|exact aa.refl _ _|apply aa.alloc|apply aa.drew|apply aa.drewN)) (fun _=>?_);clear hK K;refine bR 10 fun K hK=>?_
  go_simp;refine hK.o _ _ (fN.o _ (by repeat first|exact aa.refl _ _|apply aa.alloc|apply aa.drew|apply aa.drewN)) (fun _=>?_);clear hK K;refine At (by kernel_rfl) ?_ _;unfold eo;simp only[Ak,Ag,Ah];go_simp;go_wp2_with fail;go_ret;exact aA.o _ _ (Or.inr ⟨rfl,rfl⟩)
def aaj(w:World)(lo hi mb c:Nat)(vs:List Sv)(ms:List MS)(st G:Int):Ending->World->Prop:=fun e w'=>∃(eb:Nat) (g:FG),e=.returned (BT eb 0)/\(g.lo=lo/\g.hi=hi/\g.mb=mb/\g.c=c/\g.vs=vs/\g.ms=ms/\g.st=st/\g.G=G)/\pS w' eb g (-1) false [] (.slice none 0 0) (.slice none 0 0)/\(w.heap.size<=eb/\w.heap.size<=g.fb/\w.heap.size<=g.sb/\w.heap.size<=g.bb)/\(g.fb≠g.sb/\g.fb≠g.bb/\g.sb≠g.bb)/\aa ai w w'
theorem al1(hM:jj w lo hi mb c vs ms)(hn:ms.length<=4001):
 Calls prog 46 #[.agg #[.slice (some (GB mb 0)) ms.length c,GW st,GW G]] w (aaj w lo hi mb c vs ms st G):=by
 have B0:=au.new w #[.slice (some (GB mb 0)) ms.length c,GW st,GW G] 73;have fN:Hid (∀W,aa ai (w.alloc (.cells #[.slice (some (GB mb 0)) ms.length c,GW st,GW G] 73)) W->sN w.heap.size (some (GB mb 0)) ms.length c st G W):=fun W k=>sN.of (B0.kept k (fun hx=>hx))
 have k0:aa ai w ((w.alloc (.cells #[.slice (some (GB mb 0)) ms.length c,GW st,GW G] 73)).drew):=((aa.refl ai w).alloc _).drew;have F:=ab (adJ (st:=st) (G:=G) (hM.kept k0) hn);have K0:=ab k0;have HM:=ab hM;clear B0 k0 hM;go_enter func46,ntmps46;go_wp2_with fail;refine gD (S:=sN w.heap.size (some (GB mb 0)) ms.length c st G) 6 (by kernel_rfl) rfl rfl rfl (by kernel_rfl) (by kernel_rfl) ?_;have ak:=fN.o ((w.alloc (.cells #[.slice (some (GB mb 0)) ms.length c,GW st,GW G] 73)).drew) (aa.refl _ _).drew;refine aj 0 3 (BT w.heap.size 1) ak ?_;refine aj 1 4 (GW st) ak ?_;refine aj 2 5 (.agg #[.slice (some (GB mb 0)) ms.length c,GW st,GW G]) ak ?_;simp only[Act.put,Aa,Ad,Ac];refine bR 3 fun K hK=>?_
 go_simp;refine(F.o).mono ?_;rintro e w5 ⟨g,rfl,e1,h5,e2,e3,k5⟩;dsimp only;have js:=K0.o.size;have K5:=ab (((aa.refl ai (w.alloc (.cells #[.slice (some (GB mb 0)) ms.length c,GW st,GW G] 73))).drew).trans k5)
 have aA:Hid (aaj w lo hi mb c vs ms st G (.returned (BT w5.heap.size 0)) (w5.alloc (.cells #[GW st,BT g.fb 0,.int .i32 (-1),.slice none 0 0,.slice none 0 0,.bool false] 153))):=by
  have kk:aa ai w w5:=K0.o.trans k5;have cS:=kk.size;have ka:aa ai w5 (w5.alloc (.cells #[GW st,BT g.fb 0,.int .i32 (-1),.slice none 0 0,.slice none 0 0,.bool false] 153)):=(aa.refl ai w5).alloc _;obtain⟨_,_,_,s1,b1,hB,⟨hS,_⟩,⟨BU,_⟩⟩:=h5.ex;have f1:=hB.lt;have f2:=hS.lt;have f3:=BU.lt;have m1:=h5.ma.iz.lt;have m2:=h5.ma.le;have m3:=h5.ma.jS.lt;have ue:=e1;obtain⟨q1,q2,q3,q4,q5,q6,q7,q8⟩:=e1;refine⟨w5.heap.size,g,rfl,ue,⟨?_,A8 _ _ _ _,⟨0,[],A8 _ _ _ _⟩,h5.new ka,Al _,fun t ht=>(by cases ht),⟨⟨by omega,by omega,by omega⟩,fun hx=>?_⟩,fun i hi=>(by cases hi),fun i hi=>(by cases hi),fun i hi=>(by cases hi)⟩,by omega,e3,kk.trans ka⟩
  ·rw[q7];exact au.new w5 _ _
  ·rcases hx with(hx|hx)|(hx|hx)<;>omega
 refine hK.o _ _ (fN.o _ K5.o) (fun _=>?_);clear hK K F k5 e1 h5 e2 e3;refine bR 4 fun K hK=>?_
 go_simp;refine hK.o _ _ (fN.o _ K5.o) (fun _=>?_);clear hK K;refine bR 5 fun K hK=>?_
 go_simp;refine hK.o _ _ (fN.o _ (K5.o.alloc _)) (fun _=>?_);clear hK K;refine At (by kernel_rfl) ?_ _;unfold eo;simp only[Ak,Ag,Ah];go_simp;go_wp2_with fail;go_ret;exact aA.o
theorem X3{P:Program}{k:TypeId}{R:Value->Option (DataW Unit×List MemPlace)}{n:Nat}{D:DataW Unit}(h:w.ownsMap P k R b n D):b<w.heap.size:=by
 obtain⟨es,clock,hb,_⟩:=h;exact(Am.1 hb).1
theorem au.ry(w:World)(cs:Array Value)(t:TypeId)(k:Nat)(hk:w.heap.size=k):au (w.alloc (.cells cs t)) k cs t:=by subst hk;exact au.new w cs t
structure PL(w0 wx:World)(lo hi mb c:Nat)(vs:List Sv)(ms:List MS)(u G mo:Int)(b mp:Nat)(f:FG)(cl:List Int)(ca:Option Addr)(cc cb:Nat):Prop where
 aq:au wx b (p_ u (BT f.fb 0) false (.slice ca cl.length cc) mo mp (.pointer none) (.slice none 0 0)) 159
 map:wx.ownsMap prog 9 me mp 0 (.map [])
 par:f.lo=lo/\f.hi=hi/\f.mb=mb/\f.c=c/\f.vs=vs/\f.ms=ms/\f.st=u/\f.G=G
 fO:jh wx f
 cls:AE wx ca cb cl
 AU:cl.Pairwise (· <= ·)
 ok:tO ms cl
 bN:cl.length<=2000000
 low:(w0.heap.size<=b/\w0.heap.size<=mp/\w0.heap.size<=f.fb/\w0.heap.size<=f.sb/\w0.heap.size<=f.bb)/\(cl≠ []->w0.heap.size<=cb)
 ap:((f.fb≠f.sb/\f.fb≠f.bb/\f.sb≠f.bb)/\(b≠mp/\b≠f.fb/\b≠f.sb/\b≠f.bb)/\(mp≠f.fb/\mp≠f.sb/\mp≠f.bb))/\(cl≠ []->cb≠b/\cb≠mp/\cb≠f.fb/\cb≠f.sb/\cb≠f.bb)
 ltm:mp<wx.heap.size
 kept:aa ai w0 wx
def LM(w:World)(lo hi mb c:Nat)(vs:List Sv)(ms:List MS)(u G mo:Int)(e:Ending)(w':World):Prop:=∃(eb p:Nat) (g:FG) (x:im) (mv:Value),e=.returned (BT eb 0)/\(g.lo=lo/\g.hi=hi/\g.mb=mb/\g.c=c/\g.vs=vs/\g.ms=ms/\g.st=u/\g.G=G)/\xm g x/\fM w' eb g x p (yj g.ms (-1)) [] mv/\(∀i,dG eb g x mv i->w.heap.size<=i)/\(x.m.cl≠ []->w.heap.size<=x.cb)/\aa ai w w'
theorem alo{i:Nat}(hq:f.cP i)(hp:f.lo=lo/\f.hi=hi/\f.mb=mb/\f.c=c/\f.vs=vs/\f.ms=ms/\f.st=u/\f.G=G)(h:jj w lo hi mb c vs ms):i<w.heap.size:=by
 have h1:=h.le;have h2:=h.jS.lt;have h3:=h.iz.lt;obtain⟨p1,p2,p3,_⟩:=hp;rcases hq with(hi|hi)|(hi|hi)
 ·rw[hi,p3];exact h3
 ·omega
 ·rw[hi];exact h2.1
 ·rw[hi];exact h2.2
theorem lU.empty{T:Nat->Option dC}(h:w.ownsMap prog 9 me mp 0 (.map []))(fD:2<=mo/\mo<=1000000000):lU w mp mo T (.map []):=⟨ad3 h,by simp[Maps.size];omega,fun kl hk=>(by simp[Maps.has]at hk)⟩
def tg0:TG:=⟨fun _=>False,fun _=>none,fun _=>0⟩
def Sd(u mo:Int)(mp:Nat)(ca:Option Addr)(cb cc:Nat)(cl:List Int)(ms:List MS):im:=⟨⟨ms,u,cl⟩,tg0,mp,mo,ca,cb,cc⟩
theorem apg(w:World)(m:MC):iV w m tg0:=⟨fun b s h=>(by cases h),fun i h=>h.elim,fun b s h=>(by cases h)⟩
theorem PL.pre{wx:World}{cl:List Int}{ca:Option Addr}{cc cb:Nat}{ed:Bool}(h:PL w0 wx lo hi mb c vs ms u G mo b mp f cl ca cc cb)(hB:au wr b (p_ u (BT f.fb 0) ed (.slice ca cl.length cc) mo mp (.pointer none) (.slice none 0 0)) 159)(hK:aa (fun i=>i=b) wx wr)(ia:fg ms/\∃Q,iJ Q ms)(hn:ms.length<=4001)(fD:2<=mo/\mo<=1000000000)(bD:0<=u/\u<ms.length)(hm:∀i,f.cP i->i<w0.heap.size)(he:ed=pz f.ms):
 xm f (Sd u mo mp ca cb cc cl ms)/\LL wr b f (Sd u mo mp ca cb cc cl ms) (.pointer none) [] (.slice none 0 0)/\((∀i,dG b f (Sd u mo mp ca cb cc cl ms) (.slice none 0 0) i->w0.heap.size<=i)/\(cl≠ []->w0.heap.size<=cb)):=by
 obtain⟨p1,p2,p3,p4,p5,p6,p7,p8⟩:=h.par;obtain⟨⟨a1,a2,a3⟩,a4⟩:=h.ap;have l:=h.low;have nm:∀i,w0.heap.size<=i->¬f.cP i:=fun i hi hx=>by have:=hm i hx;omega
 refine⟨⟨⟨by rw[p6];exact ia.1,by rw[p6];exact ia.2,by rw[p6];exact hn,a1,nm _ l.1.2.2.1,nm _ l.1.2.2.2.1,nm _ l.1.2.2.2.2⟩,⟨p6.symm,p7.symm⟩,by rw[p6,p7];exact bD,fD,h.AU,h.bN,h.ok⟩,⟨?_,A8 _ _ _ _,⟨.map [],?_⟩,apg _ _,h.fO.kept hK (fun i hi=>?_),h.cls.kept hK (fun aB hx=>(a4 aB).1 hx),⟨a2.1,a2.2,a3,nm _ l.1.2.1,fun h=>h,fun h=>h,fun h=>h,fun h=>h,fun h=>h⟩,⟨nm _ l.1.1,fun i hi=>hi.elim⟩,Ar h.ltm hK.size,fun i hi=>(by cases hi),fun aB hx=>?_⟩,fun i hi=>?_,l.2⟩
 ·rw[<-he,p7];exact hB
 ·exact lU.empty (jQ h.map hK (fun hx=>a2.1 hx.symm)) (by show(2:Int)<=mo/\_;exact fD)
 ·rw[hi];exact⟨by omega,nm _ l.1.1⟩
 ·have:=a4 aB;rcases hx with hx|hx|hx|hx|hx|hx|hx
  ·exact this.1 hx
  ·exact hx
  ·exact this.2.1 hx
  ·exact this.2.2.1 hx
  ·exact this.2.2.2.1 hx
  ·exact this.2.2.2.2 hx
  ·cases hx
 ·rcases hi with hi|hi|hi|hi|hi|hi|hi
  ·rw[hi];exact l.1.1
  ·exact hi.elim
  ·rw[hi];exact l.1.2.1
  ·rw[hi];exact l.1.2.2.1
  ·rw[hi];exact l.1.2.2.2.1
  ·rw[hi];exact l.1.2.2.2.2
  ·cases hi
theorem LM.of{w9:World}{x:im}(hp:f.lo=lo/\f.hi=hi/\f.mb=mb/\f.c=c/\f.vs=vs/\f.ms=ms/\f.st=u/\f.G=G)(hO:xm f x)(hP:∃(p':Nat) (t':TG) (fK:Value),fM w9 b f (x.to0 t') p' (yj f.ms (-1)) [] fK/\cH (dG b f x (.slice none 0 0)) (dG b f (x.to0 t') fK) wr w9)(hl:(∀i,dG b f x (.slice none 0 0) i->w0.heap.size<=i)/\(x.m.cl≠ []->w0.heap.size<=x.cb))(h0:w.heap.size<=w0.heap.size)(k:aa ai w wr):LM w lo hi mb c vs ms u G mo (.returned (BT b 0)) w9:=by
 obtain⟨p',t',fK,h1,h2⟩:=hP;have hs:=k.size;refine⟨b,p',f,x.to0 t',fK,rfl,hp,hO.to0 t',h1,fun i hi=>?_,fun aB=>Bh h0 (hl.2 aB),k.wI h2.kept (fun i hi=>Bh h0 (hl.1 i hi))⟩;rcases h2.aq i hi with e|e
 ·exact Bh h0 (hl.1 i e)
 ·omega
theorem akY{base:Nat}{x:Int}(MK:jj w lo hi mb c vs ms)(h:o_ w lo hi base (.slice (some (GB mb 0)) ms.length c) ms)(aB:0<ms.length)(hn:ms.length<=4001)(fD:2<=mo/\mo<=1000000000)(ia:fg ms/\∃Q,iJ Q ms)(RI:0<=u/\u<ms.length):
 Calls prog 47 #[.agg #[.slice (some (GB mb 0)) ms.length c,GW u,GW x],GW mo] w (LM w lo hi mb c vs ms u x mo):=by
 have Nh:=MK.le;have hWf:∀(v:Nat) (m:MS),ms[v]? =some m->m.kind=1->jX m.sp:=fun v m hm hk=>(ia.2.elim fun Q hQ=>(hQ m (Ce hm)).1 hk)
 obtain⟨n,No⟩:∃n,n=ms.length:=⟨_,rfl⟩
 have T4:=ab MK;have pV:=ab ia;have hgm:mb<w.heap.size:=MK.iz.lt;have so:=RI;rw[<-No]at h aB hn⊢;obtain⟨ao,mA⟩:∃ao:Option Addr,ao=some (GB mb 0):=⟨_,rfl⟩
 rw[<-mA]at h⊢;have B0:=au.new w #[.slice ao n c,GW u,GW x] 73;have fN:Hid (∀W,aa ai (w.alloc (.cells #[.slice ao n c,GW u,GW x] 73)) W->sN w.heap.size ao n c u x W):=fun W k=>sN.of (B0.kept k (fun hx=>hx))
 have HF:Hid (∀W,aa ai (w.alloc (.cells #[.slice ao n c,GW u,GW x] 73)) W->Calls prog 70 #[.agg #[.slice ao n c,GW u,GW x]] W (FE W lo hi mb c vs ms u x)):=fun W k=>by
  rw[mA,No];exact adJ (MK.kept (((aa.refl ai w).alloc _).trans k)) (by omega)
 have HC:Hid (∀W,aa ai (w.alloc (.cells #[.slice ao n c,GW u,GW x] 73)) W->Calls prog 71 #[.agg #[.slice ao n c,GW u,GW x]] W (Za W ms)):=fun W k=>by
  have k':aa ai w W:=((aa.refl ai w).alloc _).trans k;have h':=h.kept k' (fun _ _ _ hx=>hx) (fun _ _ hx=>hx) Nh;have:=ahF (u:=u) (x:=x) h' (by have:=k'.size;omega) (by omega) (by omega) hWf;simp only[XF]at this;exact this
 obtain⟨g,c',hv,hg,jD,bD⟩:=h.array (by omega);simp only[A9]at hv;obtain⟨mI,nV,rfl⟩:=hv;clear nV;have eg:mb=g:=by rw[mA]at mI;simpa using mI
 subst eg;subst mA;clear mI;have lS:=ab bD;have T5:=ab No;clear B0 h bD No MK ia;go_enter func47,ntmps47;go_wp2_with fail;go_cut [5] (fun s5 wx=>∃(b mp:Nat) (f:FG) (cl:List Int) (ca:Option Addr) (cc cb:Nat),s5=BT b 0/\Hid (PL (w.alloc (.cells #[.slice (some (GB mb 0)) n c,GW u,GW x] 73)) wx lo hi mb c vs ms u x mo b mp f cl ca cc cb))
 case first=>
  refine gD (S:=sN w.heap.size (some (GB mb 0)) n c u x) 10 (by kernel_rfl) rfl rfl rfl (by kernel_rfl) (by kernel_rfl) ?_;have ak:=fN.o ((w.alloc (.cells #[.slice (some (GB mb 0)) n c,GW u,GW x] 73)).drew) (aa.refl _ _).drew;refine aj 0 7 (BT w.heap.size 1) ak ?_;refine aj 1 8 (GW u) ak ?_;refine aj 2 9 (.agg #[.slice (some (GB mb 0)) n c,GW u,GW x]) ak ?_;refine aj 4 11 (.agg #[.slice (some (GB mb 0)) n c,GW u,GW x]) ak ?_;refine aj 6 13 (GW mo) ak ?_;simp only[Act.put,Aa,Ad,Ac];refine Ge (rs:=[3,7]) (by kernel_rfl) (by simp) (Dl rfl (fun K hK=>?_) (Dl rfl (fun K hK=>?_) Fu))
  ·go_simp;refine(HF.o _ (by first|exact(aa.refl _ _).drew|exact((aa.refl _ _).alloc _).drew)).mono ?_;rintro e w1 ⟨f,rfl,Ot,NP,Od,lC,zx⟩;have kO:=ab (And.intro Ot (And.intro NP (And.intro Od lC)));clear Ot NP Od lC;dsimp only;have K1:=ab (((aa.refl ai (w.alloc (.cells #[.slice (some (GB mb 0)) n c,GW u,GW x] 73))).drew).trans zx);refine hK.o _ _ (fN.o _ K1.o) (fun _=>?_);clear hK K zx;refine Ge (rs:=[5,7]) (by kernel_rfl) (by simp) (Dl rfl (fun K hK=>?_) (Dl rfl (fun K hK=>?_) Fu))
   ·go_simp;have Lj:=ab kO.o.2.1;refine(HC.o _ (K1.o)).mono ?_;rintro e w2 ⟨cl,L5,cc,cb,rfl,at2,AV,DP,BE,ry,kJ⟩;have iZ:=ab (And.intro at2 (And.intro AV (And.intro DP (And.intro BE ry))));have tS:=ab (Lj.o.new kJ);have il:=ab (kJ.size);clear at2 AV DP BE ry;dsimp only;have K2:=ab ((K1.o).trans kJ);refine hK.o _ _ (fN.o _ K2.o) (fun _=>?_);clear hK K kJ;refine bR 7 fun K hK=>?_
    have HM:=ab (Ei (w2) prog 9 me);go_simp;refine hK.o _ _ (fN.o _ (K2.o.alloc _)) (fun _=>?_);clear hK K;refine bR 8 fun K hK=>?_
    go_simp;refine hK.o _ _ (fN.o _ (K2.o.alloc (.map #[] 0))) (fun _=>?_);clear hK K;refine bR 9 fun K hK=>?_
    go_simp;refine hK.o _ _ (fN.o _ (aa.alloc (K2.o.alloc (.map #[] 0)) _)) (fun _=>?_);clear hK K;refine At (by kernel_rfl) ?_ _;unfold eo;simp only[Ak,Ag,Ah];go_simp;go_wp2_with fail;go_meet
    case rel=>
     obtain⟨_,_,_,_,_,y1,⟨y2,_⟩,⟨y3,_⟩⟩:=kO.o.2.1.ex;have z1:=y1.lt;have z2:=y2.lt;have z3:=y3.lt;have z4:=kO.o.2.2.1;have z5:=il.o;have z6:=iZ.o.2.2.2.2;have z7:=(fun aB=>(iZ.o.1.at_ aB).2);have zn:=X3 HM.o;have zk:=K1.o.size;have zd:=((aa.refl ai (w.alloc (.cells #[.slice (some (GB mb 0)) n c,GW u,GW x] 73))).drew).size;simp only[iy]at z4 z5 z6 z7 zn zk zd;refine⟨_,_,f,cl,L5,cc,cb,rfl,ab ⟨au.ry _ _ _ _ (by simp),jQ HM.o ((aa.refl ai _).alloc _) (fun hx=>hx),kO.o.1,tS.o.new (((aa.refl ai _).alloc _).alloc _),iZ.o.1.kept (K:=ai) (((aa.refl ai _).alloc _).alloc _) (fun _ hx=>hx),iZ.o.2.1,iZ.o.2.2.1,iZ.o.2.2.2.1,?_,?_,?_,aa.alloc (K2.o.alloc (.map #[] 0)) _⟩⟩
     ·(try simp only[iy])
      exact⟨⟨by omega,by omega,by omega,by omega,by omega⟩,fun aB=>by have:=z6 aB;omega⟩
     ·(try simp only[iy])
      exact⟨⟨kO.o.2.2.2,⟨by omega,by omega,by omega,by omega⟩,by omega,by omega,by omega⟩,fun aB=>by have:=z6 aB;have:=z7 aB;omega⟩
     ·first|omega|(simp only[iy];omega)
   ·have HM:=ab (Ei (w1) prog 9 me);go_simp;refine hK.o _ _ (fN.o _ (K1.o.alloc _)) (fun _=>?_);clear hK K;refine bR 5 fun K hK=>?_
    go_simp;have Lj:=ab (kO.o.2.1.new ((aa.refl ai w1).alloc (.map #[] 0)));refine(HC.o _ (K1.o.alloc _)).mono ?_;rintro e w2 ⟨cl,L5,cc,cb,rfl,at2,AV,DP,BE,ry,kJ⟩;have iZ:=ab (And.intro at2 (And.intro AV (And.intro DP (And.intro BE ry))));have tS:=ab (Lj.o.new kJ);have il:=ab (kJ.size);clear at2 AV DP BE ry;dsimp only;have K2:=ab ((K1.o.alloc _).trans kJ);refine hK.o _ _ (fN.o _ K2.o) (fun _=>?_);have vf:=ab (jQ HM.o kJ (fun hx=>hx));clear hK K kJ;refine bR 8 fun K hK=>?_
    go_simp;refine hK.o _ _ (fN.o _ K2.o) (fun _=>?_);clear hK K;refine bR 9 fun K hK=>?_
    go_simp;refine hK.o _ _ (fN.o _ (aa.alloc K2.o _)) (fun _=>?_);clear hK K;refine At (by kernel_rfl) ?_ _;unfold eo;simp only[Ak,Ag,Ah];go_simp;go_wp2_with fail;go_meet
    case rel=>
     obtain⟨_,_,_,_,_,y1,⟨y2,_⟩,⟨y3,_⟩⟩:=kO.o.2.1.ex;have z1:=y1.lt;have z2:=y2.lt;have z3:=y3.lt;have z4:=kO.o.2.2.1;have z5:=il.o;have z6:=iZ.o.2.2.2.2;have z7:=(fun aB=>(iZ.o.1.at_ aB).2);have zn:=X3 vf.o;have zk:=K1.o.size;have zd:=((aa.refl ai (w.alloc (.cells #[.slice (some (GB mb 0)) n c,GW u,GW x] 73))).drew).size;simp only[iy]at z4 z5 z6 z7 zn zk zd;refine⟨_,_,f,cl,L5,cc,cb,rfl,ab ⟨au.ry _ _ _ _ (by simp),jQ vf.o ((aa.refl ai _).alloc _) (fun hx=>hx),kO.o.1,tS.o.new ((aa.refl ai _).alloc _),iZ.o.1.kept (K:=ai) ((aa.refl ai _).alloc _) (fun _ hx=>hx),iZ.o.2.1,iZ.o.2.2.1,iZ.o.2.2.2.1,?_,?_,?_,aa.alloc K2.o _⟩⟩
     ·(try simp only[iy])
      exact⟨⟨by omega,by omega,by omega,by omega,by omega⟩,fun aB=>by have:=z6 aB;omega⟩
     ·(try simp only[iy])
      exact⟨⟨kO.o.2.2.2,⟨by omega,by omega,by omega,by omega⟩,by omega,by omega,by omega⟩,fun aB=>by have:=z6 aB;have:=z7 aB;omega⟩
     ·first|omega|(simp only[iy];omega)
  ·have HM:Hid (World.ownsMap ((w.alloc (.cells #[.slice (some (GB mb 0)) n c,GW u,GW x] 73)).alloc (.map #[] 0)) prog 9 me (w.heap.size+1) 0 (.map [])):=ab (by rw[<-iy w (.cells #[.slice (some (GB mb 0)) n c,GW u,GW x] 73)];exact Ei (w.alloc (.cells #[.slice (some (GB mb 0)) n c,GW u,GW x] 73)) prog 9 me);go_simp;refine hK.o _ _ (fN.o _ ((aa.refl ai (w.alloc (.cells #[.slice (some (GB mb 0)) n c,GW u,GW x] 73))).alloc _).drew) (fun _=>?_);clear hK K;refine bR 3 fun K hK=>?_
   go_simp;refine(HF.o _ (by first|exact(aa.refl _ _).drew|exact((aa.refl _ _).alloc _).drew)).mono ?_;rintro e w1 ⟨f,rfl,Ot,NP,Od,lC,zx⟩;have kO:=ab (And.intro Ot (And.intro NP (And.intro Od lC)));clear Ot NP Od lC;dsimp only;have K1:=ab ((((aa.refl ai (w.alloc (.cells #[.slice (some (GB mb 0)) n c,GW u,GW x] 73))).alloc (.map #[] 0)).drew).trans zx);refine hK.o _ _ (fN.o _ K1.o) (fun _=>?_);have sK:=ab (jQ (show World.ownsMap (((w.alloc (.cells #[.slice (some (GB mb 0)) n c,GW u,GW x] 73)).alloc (.map #[] 0)).drew) prog 9 me _ 0 (.map [])from HM.o) zx (fun hx=>hx));clear hK K zx;refine bR 5 fun K hK=>?_
   go_simp;have Lj:=ab kO.o.2.1;refine(HC.o _ (K1.o)).mono ?_;rintro e w2 ⟨cl,L5,cc,cb,rfl,at2,AV,DP,BE,ry,kJ⟩;have iZ:=ab (And.intro at2 (And.intro AV (And.intro DP (And.intro BE ry))));have tS:=ab (Lj.o.new kJ);have il:=ab (kJ.size);clear at2 AV DP BE ry;dsimp only;have K2:=ab ((K1.o).trans kJ);refine hK.o _ _ (fN.o _ K2.o) (fun _=>?_);have vf:=ab (jQ sK.o kJ (fun hx=>hx));clear hK K kJ;refine bR 8 fun K hK=>?_
   go_simp;refine hK.o _ _ (fN.o _ K2.o) (fun _=>?_);clear hK K;refine bR 9 fun K hK=>?_
   go_simp;refine hK.o _ _ (fN.o _ (aa.alloc K2.o _)) (fun _=>?_);clear hK K;refine At (by kernel_rfl) ?_ _;unfold eo;simp only[Ak,Ag,Ah];go_simp;go_wp2_with fail;go_meet
   case rel=>
    obtain⟨_,_,_,_,_,y1,⟨y2,_⟩,⟨y3,_⟩⟩:=kO.o.2.1.ex;have z1:=y1.lt;have z2:=y2.lt;have z3:=y3.lt;have z4:((w.alloc (.cells #[.slice (some (GB mb 0)) n c,GW u,GW x] 73)).alloc (.map #[] 0)).heap.size<=f.fb/\((w.alloc (.cells #[.slice (some (GB mb 0)) n c,GW u,GW x] 73)).alloc (.map #[] 0)).heap.size<=f.sb/\((w.alloc (.cells #[.slice (some (GB mb 0)) n c,GW u,GW x] 73)).alloc (.map #[] 0)).heap.size<=f.bb:=kO.o.2.2.1;have z5:=il.o;have z6:=iZ.o.2.2.2.2;have z7:=(fun aB=>(iZ.o.1.at_ aB).2);have zn:=X3 vf.o;have zk:=K1.o.size;have zd:=((aa.refl ai ((w.alloc (.cells #[.slice (some (GB mb 0)) n c,GW u,GW x] 73)).alloc (.map #[] 0))).drew).size;simp only[iy]at z4 z5 z6 z7 zn zk zd;refine⟨_,_,f,cl,L5,cc,cb,rfl,ab ⟨au.ry _ _ _ _ (by simp),jQ vf.o ((aa.refl ai _).alloc _) (fun hx=>hx),kO.o.1,tS.o.new ((aa.refl ai _).alloc _),iZ.o.1.kept (K:=ai) ((aa.refl ai _).alloc _) (fun _ hx=>hx),iZ.o.2.1,iZ.o.2.2.1,iZ.o.2.2.2.1,?_,?_,?_,aa.alloc K2.o _⟩⟩
    ·(try simp only[iy])
     exact⟨⟨by omega,by omega,by omega,by omega,by omega⟩,fun aB=>by have:=z6 aB;omega⟩
    ·(try simp only[iy])
     exact⟨⟨kO.o.2.2.2,⟨by omega,by omega,by omega,by omega⟩,by omega,by omega,by omega⟩,fun aB=>by have:=z6 aB;have:=z7 aB;omega⟩
    ·first|omega|(simp only[iy];omega)
 case rest=>
  obtain⟨b,mp,f,cl,ca,cc,cb,rfl,HP⟩:=hcut;have m0:=(fN.o _ HP.o.kept).1;have pA:=HP.o.low.1.1;simp only[iy]at pA;have HB:=ab HP.o.aq;clear HF HC;go_wp2_with fail;go_loopg [20] n (fun kk i wr=>∃(k:Nat) (ed:Bool),i=GW (k:Int)/\k<=n/\kk=n-k/\Hid (ed=(ms.take k).any fun m=>m.kind==2)/\Hid (au wr b (p_ u (BT f.fb 0) ed (.slice ca cl.length cc) mo mp (.pointer none) (.slice none 0 0)) 159)/\Hid (aa (fun i=>i=b) wc wr))
  case atStart=>exact⟨0,false,rfl,Al _,rfl,ab (by simp),HB,aa.refl _ _⟩
  case round=>
   obtain⟨k,ed,rfl,hk,eE,TP,iK,lu⟩:=hrel;clear HB;have e2:wr.cell? (GB b 2)=some (.bool ed):=iK.o.cell 2;have f2:wr.frozen? (GB b 2)=false:=iK.o.frozen 2;have gJ:=iK.o.lt;have KW:aa ai (w.alloc (.cells #[.slice (some (GB mb 0)) n c,GW u,GW x] 73)) wr:=HP.o.kept.wI lu.o (fun i hi'=>by subst hi';simp only[iy];omega);have m0:=(fN.o _ KW).1;have PH:=((aa.refl ai w).alloc (.cells #[.slice (some (GB mb 0)) n c,GW u,GW x] 73)).trans KW;by_cases az:k<n
   ·have hit:(k:Int)<(n:Int):=(by omega);have Wl:¬((n:Int)<=(k:Int)):=(by omega);have Hl:k<ms.length:=by have:=T5.o;omega
    obtain⟨q,hq,mG⟩:=lS.o k Hl;have d0:wr.cell? ⟨mb,k*6,none⟩=some (GW q.k):=(PH.cell (p:=⟨mb,k*6,none⟩) hg (fun hx=>hx)).trans (mG 0 (by omega));have Lo:∀Jm,Hid (aa (fun i=>i=b) wc (wr.setCell (GB b 2) (.bool Jm))):=fun Jm=>lu.o.setCell (p:=(GB b 2)) (Or.inl rfl) _
    have w_:∀Jm,Hid (au (wr.setCell (GB b 2) (.bool Jm)) b (p_ u (BT f.fb 0) Jm (.slice ca cl.length cc) mo mp (.pointer none) (.slice none 0 0)) 159):=fun Jm=>iK.o.setCell 2 _
    have TQ:Hid ((ed||q.k==2)=(ms.take (k+1)).any fun m=>m.kind==2):=by
     show _=_
     rw[Ck Hl,List.any_append,TP.o,hq.k];simp
    have Lo:=ab Lo;have w_:=ab w_;clear hq mG KW PH iK lu Hl TP
    cases ed with
    |true=>
     have Le:Hid (true=(ms.take (k+1)).any fun m=>m.kind==2):=TQ.o;go_wp2_with fail;go_roundg (n-(k+1))
     case measure=>omega
     case rel=>exact⟨k+1,true,by simp,by omega,rfl,Le,w_.o _,Lo.o _⟩
    |false=>
     by_cases k2:q.k=2
     ·have kE:(q.k==2)=true:=(by simp[k2]);have Le:Hid (true=(ms.take (k+1)).any fun m=>m.kind==2):=by rw[<-TQ.o,kE];exact rfl
      clear k2;go_wp2_with fail;go_roundg (n-(k+1))
      case measure=>omega
      case rel=>exact⟨k+1,true,by simp,by omega,rfl,Le,w_.o _,Lo.o _⟩
     ·have kE:(q.k==2)=false:=(by simp[k2]);have Le:Hid (false=(ms.take (k+1)).any fun m=>m.kind==2):=by rw[<-TQ.o,kE];exact rfl
      clear k2;go_wp2_with fail;go_roundg (n-(k+1))
      case measure=>omega
      case rel=>exact⟨k+1,false,by simp,by omega,rfl,Le,w_.o _,Lo.o _⟩
   ·have gK:k=n:=(by omega);subst gK;have hit:¬((k:Int)<(k:Int)):=by omega
    have he:ed=pz f.ms:=by
     rw[TP.o,T5.o,Bj,HP.o.par.2.2.2.2.2.1];rfl
    subst he;obtain⟨OK,PRE,LK⟩:=PL.pre HP.o iK.o lu.o pV.o (by have:=T5.o;omega) fD RI (fun i hi=>by have:=alo hi HP.o.par T4.o;simp only[iy];omega) rfl;have F:=ab (ac5 (c:= -1) OK PRE);have aA:Hid (∀e w9,Tv wr b f (Sd u mo mp ca cb cc cl ms) (.slice none 0 0) (-1) e w9->e=.returned (.tuple #[])/\LM w lo hi mb c vs ms u x mo (.returned (BT b 0)) w9):=(fun e w9 P=>⟨P.1,LM.of HP.o.par OK P.2 LK (by simp only[iy];omega) PH⟩);clear KW PH iK OK PRE LK;go_wp2_with fail;refine(F.o).mono ?_;intro e w9 P;obtain⟨rfl,P9⟩:=aA.o e w9 P;have vn:=ab P9;clear P P9 F aA;go_wp2_with fail;go_ret;exact vn.o
theorem YD{ah:Int}(h:pR ms A ah)(l:List bJ):bc ms ah bh l=bc ms A bh l:=by
 have hs:FP ms A ah bh bh:=⟨fun u m hm hk=>rfl,fun u m hm hk=>h u m hm hk bh⟩;have:=YE hs (fun x=>x) l;rw[SB,SB]at this;rw[this];refine Prod.ext rfl ?_;show(bc ms A bh l).2.map (fun x=>x)=_
 cases(bc ms A bh l).2<;>rfl
def Z0(s:dC):Prop:=∀t,s.aX.head?=some t->t.2=0
theorem anR(l:List bJ):∀t,(fV l).1.head?=some t->t.2=0:=by
 intro t ht
 cases l with
 |nil=>simp[fV,gO]at ht
 |cons a bs=>
  have e:(fV (a::bs)).1.head?=some (a.1,((dg [] a.2).length:Int)-1):=rfl;rw[e]at ht
  cases ht;rfl
theorem aiC{s:dC}{M:List Int}(hz:Z0 s)(hr:∀t∈s.aX,0<=t.2)(hl:M.length=jv s.aX):M.headD 0=((vC M s.aX).head?.map (·.2)).getD 0/\(!M.isEmpty)=(!(vC M s.aX).isEmpty):=by
 cases hs:s.aX with
 |nil=>
  rw[hs]at hl;have:M=[]:=Aw.1 hl;subst this;exact⟨rfl,rfl⟩
 |cons t ts=>
  have h0:=hz t (by rw[hs];rfl)
  have h1:0<M.length:=by
   rw[hl,hs];unfold jv;rw[Eb (by simp)];have:=hr _ (by rw[hs];exact List.getLast_mem (List.cons_ne_nil t ts));show 0<(((t::ts).getLast _).2+1).toNat
   omega
  cases M with
  |nil=>simp at h1
  |cons v vs=>
   refine⟨?_,rfl⟩;show v=gL (v::vs) t.2
   rw[h0];rfl
def qq(st p:Int)(mt:Bool)(l:List bJ):List bJ:=if mt then l else l++[(st,p)]
theorem alM(x:Value)(n:Nat)(w:World):(method (n+9) 125 x "Step").run prog w=.ok (227,x) w:=by kernel_rfl
theorem ahr(a:Array Value)(w:World):(callFunc 227 a).run prog w=.ok (.enter 227 a) w:=by kernel_rfl
theorem alK(x:Value)(n:Nat)(w:World):(method (n+9) 125 x "First").run prog w=.ok (225,x) w:=by kernel_rfl
theorem ahp(a:Array Value)(w:World):(callFunc 225 a).run prog w=.ok (.enter 225 a) w:=by kernel_rfl
theorem alI(x:Value)(n:Nat)(w:World):(method (n+9) 125 x "Begin").run prog w=.ok (224,x) w:=by kernel_rfl
theorem ahl(a:Array Value)(w:World):(callFunc 224 a).run prog w=.ok (.enter 224 a) w:=by kernel_rfl
theorem alL(x:Value)(n:Nat)(w:World):(method (n+9) 127 x "Step").run prog w=.ok (233,x) w:=by kernel_rfl
theorem ahq(a:Array Value)(w:World):(callFunc 233 a).run prog w=.ok (.enter 233 a) w:=by kernel_rfl
theorem alJ(x:Value)(n:Nat)(w:World):(method (n+9) 127 x "First").run prog w=.ok (231,x) w:=by kernel_rfl
theorem aho(a:Array Value)(w:World):(callFunc 231 a).run prog w=.ok (.enter 231 a) w:=by kernel_rfl
theorem alH(x:Value)(n:Nat)(w:World):(method (n+9) 127 x "Begin").run prog w=.ok (72,x) w:=by kernel_rfl
theorem ahk(a:Array Value)(w:World):(callFunc 72 a).run prog w=.ok (.enter 72 a) w:=by kernel_rfl
structure age(w:World)(ev:Value)(ms:List MS)(st A:Int)(mt:Bool)(l:List bJ)(ay fix:Nat->Prop)(eb:Nat)(g:FG)(lv sv:Value)(ah:Int):Prop where
 ev:ev=.iface 125 (BT eb 0)
 ok:g.Ok
 par:(g.ms=ms/\g.st=st)/\0<=g.st/\g.st<g.ms.length
 Je:pR ms A ah
 at_:pS w eb g ah mt l lv sv
 ay:ay=ly eb g lv sv
 fix:fix=g.cP
structure agd(w:World)(ev:Value)(ms:List MS)(st A:Int)(mt:Bool)(l:List bJ)(ay fix:Nat->Prop)(eb:Nat)(g:FG)(x:im)(p:Nat)(s:dC)(M:List Int)(mv:Value):Prop where
 ev:ev=.iface 127 (BT eb 0)
 ok:xm g x
 par:g.ms=ms/\g.st=st
 Je:pR ms A s.ah
 mt:mt=s.mt
 l:l=vC M s.aX
 len:M.length=jv s.aX
 z:Z0 s
 at_:fM w eb g x p s M mv
 ay:ay=dG eb g x mv
 fix:fix=fun i=>g.cP i\/(x.m.cl≠ []/\i=x.cb)
def mq(w:World)(ev:Value)(ms:List MS)(st A:Int)(mt:Bool)(l:List bJ)(ay fix:Nat->Prop):Prop:=
 (∃eb g lv sv ah,age w ev ms st A mt l ay fix eb g lv sv ah)\/∃eb g x p s M mv,agd w ev ms st A mt l ay fix eb g x p s M mv
theorem mq.kept{K:Nat->Prop}(h:mq w ev ms st A mt l ay fix)(k:aa K w w')(hK:∀i,K i->¬ay i/\¬fix i):mq w' ev ms st A mt l ay fix:=by
 rcases h with⟨eb,g,lv,sv,ah,h⟩|⟨eb,g,x,p,s,M,mv,h⟩
 ·exact Or.inl ⟨eb,g,lv,sv,ah,h.ev,h.ok,h.par,h.Je,h.at_.kept k (fun i hi=>by have:=hK i hi;rw[h.ay,h.fix]at this;exact this),h.ay,h.fix⟩
 ·exact Or.inr ⟨eb,g,x,p,s,M,mv,h.ev,h.ok,h.par,h.Je,h.mt,h.l,h.len,h.z,h.at_.kept k (fun i hi=>by have:=hK i hi;rw[h.ay,h.fix]at this;exact⟨⟨this.1,fun hx=>this.2 (Or.inl hx)⟩,fun aB e=>this.2 (Or.inr ⟨aB,e⟩)⟩),h.ay,h.fix⟩
theorem mq.new(h:mq w ev ms st A mt l ay fix)(k:aa ai w w'):mq w' ev ms st A mt l ay fix:=h.kept k (fun _ hx=>hx.elim)
theorem mq.lt(h:mq w ev ms st A mt l ay fix):(∀i,ay i->i<w.heap.size)/\∀i,fix i->i<w.heap.size:=by
 rcases h with⟨eb,g,lv,sv,ah,h⟩|⟨eb,g,x,p,s,M,mv,h⟩
 ·rw[h.ay,h.fix];refine⟨fun i hi=>?_,fun i hi=>uQ h.at_.fO hi⟩;obtain⟨_,_,_,_,_,x1,⟨x2,_⟩,⟨x3,_⟩⟩:=h.at_.fO.ex;obtain⟨n,xs,hs⟩:=h.at_.sp;rcases hi with hi|((hi|hi|hi)|hi)|hi
  ·rw[hi];exact h.at_.aq.lt
  ·rw[hi];exact x1.lt
  ·rw[hi];exact x2.lt
  ·rw[hi];exact x3.lt
  ·exact(dw h.at_.ls hi).2
  ·exact(dw hs hi).2
 ·rw[h.ay,h.fix];refine⟨fun i hi=>h.at_.ic hi,fun i hi=>?_⟩;rcases hi with hi|⟨aB,hi⟩
  ·exact uQ h.at_.fO hi
  ·rw[hi];exact(h.at_.cls.at_ aB).2
def StE(w:World)(ev:Value)(ms:List MS)(st A:Int)(mt:Bool)(l:List bJ)(ay fix:Nat->Prop)(place bh:Int)(e:Ending)(w':World):Prop:=
 e=.returned (.tuple #[GW ((bc ms A bh (qq st place mt l)).2.getD 0),.bool (bc ms A bh (qq st place mt l)).2.isSome])/\∃cG,mq w' ev ms st bh (mt||(bc ms A bh (qq st place mt l)).2.isSome) (bc ms A bh (qq st place mt l)).1 cG fix/\cH ay cG w w'
theorem mq.step{place:Int}(h:mq w ev ms st A mt l ay fix)(hb:0<=bh/\bh<=1114111):
 ∃(T:TypeId) (xv:Value) (fn:Nat),ev=.iface T xv/\(∀n W,(method (n+9) T xv "Step").run prog W=.ok (fn,xv) W)/\(∀a W,(callFunc fn a).run prog W=.ok (.enter fn a) W)/\Calls prog fn #[xv,GW place,.int .i32 bh] w (StE w ev ms st A mt l ay fix place bh):=by
 rcases h with⟨eb,g,lv,sv,ah,h⟩|⟨eb,g,x,p,s,M,mv,h⟩
 ·refine⟨_,_,_,h.ev,alM _,ahr,(ajf h.ok h.par.2 hb h.at_).mono ?_⟩;rintro e w' ⟨rfl,dp,yk,h1,h2⟩;have en:uU g place mt l=qq st place mt l:=by unfold uU qq;rw[h.par.1.2]
  rw[en,h.par.1.1,YD h.Je]at h1;refine⟨by rw[en,h.par.1.1,YD h.Je],ly eb g dp yk,Or.inl ⟨eb,g,dp,yk,bh,h.ev,h.ok,h.par,fun _ _ _ _ _=>rfl,h1,rfl,h.fix⟩,?_⟩;rw[h.ay];exact h2
 ·refine⟨_,_,_,h.ev,alL _,ahq,(akZ h.ok hb h.at_ h.len).mono ?_⟩;rintro e w' ⟨t',p',fK,rfl,h1,h2⟩;have dB:=(h.at_.nu.ok p s h.at_.rz).1;have e1:x.m.ms=ms:=h.ok.ms.1.trans h.par.1;have e2:x.m.st=st:=h.ok.ms.2.trans h.par.2;have ia:fg x.m.ms:=by rw[h.ok.ms.1];exact h.ok.ok.fJ
  have MU:=amB (st:=x.m.st) (j9:=jR x.m.ms bh) (p:=place) (ah:=s.ah) (bh:=bh) (nJ:=bh) dB h.len ⟨fun _ _ _ _=>rfl,fun _ _ _ _=>rfl⟩;have aj5:=amf dB h.len x.m.st place
  have hN:vC (mK s M place) (dF x.m.st s)=qq st place mt l:=by
   rw[aj5,<-h.l,e2];unfold qq;rw[h.mt]
  rw[hN,e1,YD h.Je]at MU;have hO:mL ms x.m.st (jR ms bh) bh s=x.m.o bh s:=by unfold MC.o;rw[e1]
  rw[hO]at MU;have hx:=SX ia s.ah bh (dF x.m.st s);obtain⟨r1,r2,r3,r4,r5⟩:=XW (st:=x.m.st) (j9:=jR x.m.ms bh) ia dB hx (afv _ _ _ _);have B_:mL x.m.ms x.m.st (jR x.m.ms bh) bh s=x.m.o bh s:=rfl;rw[B_]at r2;refine⟨?_,dG eb g (x.to0 t') fK,Or.inr ⟨eb,g,x.to0 t',p',(x.m.o bh s).1,_,fK,h.ev,h.ok.to0 t',h.par,?_,?_,?_,?_,?_,h1,rfl,h.fix⟩,?_⟩
  ·rw[MU];congr 5
   cases(x.m.o bh s).2.2<;>rfl
  ·show pR ms bh (jR x.m.ms bh)
   rw[e1];exact YC ms bh
  ·rw[MU,h.mt];show(s.mt||((x.m.o bh s).2.2.map _).isSome)=(s.mt||(x.m.o bh s).2.2.isSome)
   cases(x.m.o bh s).2.2<;>rfl
  ·rw[MU]
  ·rw[Cn];exact r2
  ·exact anR _
  ·rw[h.ay];exact h2
theorem mq.first(h:mq w ev ms st A mt l ay fix):
 ∃(T:TypeId) (xv:Value) (fn:Nat),ev=.iface T xv/\(∀n W,(method (n+9) T xv "First").run prog W=.ok (fn,xv) W)/\(∀a W,(callFunc fn a).run prog W=.ok (.enter fn a) W)/\Calls prog fn #[xv] w fun e w'=>e=.returned (.tuple #[GW ((l.head?.map (·.2)).getD 0),.bool (!l.isEmpty)])/\w'=w:=by
 rcases h with⟨eb,g,lv,sv,ah,h⟩|⟨eb,g,x,p,s,M,mv,h⟩
 ·exact⟨_,_,_,h.ev,alK _,ahp,aja h.at_⟩
 ·refine⟨_,_,_,h.ev,alJ _,aho,(akW h.at_).mono ?_⟩;rintro e w' ⟨rfl,rfl⟩;have:=aiC h.z (fun t ht=>((h.at_.nu.ok p s h.at_.rz).1.rg t ht).1) h.len;rw[h.l,this.1,this.2];exact⟨rfl,rfl⟩
def BgE(w:World)(ev:Value)(ms:List MS)(st:Int)(ay fix:Nat->Prop)(c:Int)(e:Ending)(w':World):Prop:=e=.returned (.tuple #[])/\∃cG,mq w' ev ms st c false [] cG fix/\cH ay cG w w'
theorem mq.begin{c:Int}(h:mq w ev ms st A mt l ay fix):
 ∃(T:TypeId) (xv:Value) (fn:Nat),ev=.iface T xv/\(∀n W,(method (n+9) T xv "Begin").run prog W=.ok (fn,xv) W)/\(∀a W,(callFunc fn a).run prog W=.ok (.enter fn a) W)/\Calls prog fn #[xv,.int .i32 c] w (BgE w ev ms st ay fix c):=by
 rcases h with⟨eb,g,lv,sv,ah,h⟩|⟨eb,g,x,p,s,M,mv,h⟩
 ·refine⟨_,_,_,h.ev,alI _,ahl,(ai9 h.at_).mono ?_⟩;rintro e w' ⟨rfl,dp,h1,h2⟩;refine⟨rfl,ly eb g dp sv,Or.inl ⟨eb,g,dp,sv,c,h.ev,h.ok,h.par,fun _ _ _ _ _=>rfl,h1,rfl,h.fix⟩,?_⟩;rw[h.ay];exact h2
 ·refine⟨_,_,_,h.ev,alH _,ahk,(ac5 h.ok h.at_.pre).mono ?_⟩;rintro e w' ⟨rfl,p',t',fK,h1,h2⟩;refine⟨rfl,dG eb g (x.to0 t') fK,Or.inr ⟨eb,g,x.to0 t',p',yj g.ms c,[],fK,h.ev,h.ok.to0 t',h.par,?_,rfl,rfl,rfl,fun t ht=>(by cases ht),h1,rfl,h.fix⟩,?_⟩
  ·show pR ms c (jR g.ms c)
   rw[h.par.1];exact YC ms c
  ·rw[h.ay];exact h2
