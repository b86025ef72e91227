/- Package flow's t -/
import Derived.Test.YtpdnofhackjfdaaGreatDoorP42
set_option linter.all false
set_option maxRecDepth 100000
set_option maxHeartbeats 8000000
namespace Go.Proofs.YtpdnofhackjfdaaGreatDoor
open Go.Proofs.Tryz
open Go.RowKit Go.Maps
variable {X:ByteArray} {c c' c0:FC} {g:FM} {s:cx} {J:cx->Prop} {told:Int} {aG:List (Ev×Value)} {R0:List Ev} {a b f fb bu n:Nat} {O fix ay cG pK:Nat->Prop} {v v2:Value} {w w' w0 w1 w2 wr:World}
def IS(w w':World)(i:Nat):Prop:=w.heap.size<=i/\i<w'.heap.size
theorem mR.evL{x:CX}{N2:Nat}{lx:List (Ev×Nat)}{r:Nat}(h:mR w w0.heap.size v x N2 lx)(hS:ki X x a r)(eD:∀p∈lx,p.1.a<=p.1.b/\p.1.b<=x.n/\p.1.gs.length=N2):
 dY w (IS w0 w) v X (lx.map fun p=>(wQ a p.1,.slice (some (GB p.2 0)) N2 N2)):=by
 have hn:=hS.n;have hl:=hS.le
 have key:∀m:List (Ev×Nat),(∀p∈m,p∈lx)->iD X (m.map fun p=>(wQ a p.1,.slice (some (GB p.2 0)) N2 N2))=yS x N2 m:=by
  intro m;induction m with
  |nil=>intro _;rfl
  |cons p m ih=>
   intro hm;have hp:=eD p (hm p (by simp));have uK:=ih (fun q hq=>hm q (List.mem_cons_of_mem _ hq));have e1:aR X (a+p.1.a)=x.aZ p.1.a:=by rw[hS.aZ (by omega)];unfold CX.aZ aQ aR;simp
   have e2:aR X (a+p.1.b)=x.aZ p.1.b:=by rw[hS.aZ (by omega)];unfold CX.aZ aQ aR;simp
   have e3:X.extract (bd X (a+p.1.a)) (bd X (a+p.1.b))=x.s.extract (bd x.s p.1.a) (bd x.s p.1.b):=by
    have q1:=hS.bd (k:=p.1.a) (by omega);have q2:=hS.bd (k:=p.1.b) (by omega);have q3:=fZ X (show a<=a+p.1.a by omega);have q4:=fZ X (show a<=a+p.1.b by omega);have q5:=fZ X (show a+p.1.b<=r by omega);rw[hS.s,QD X _ _ _ _ (by rw[<-hS.s];omega)];rw[hS.s]at q1 q2;congr 1<;>omega
   show pw X (wQ a p.1) _++_=xA x N2 p.1 p.2++_
   congr 1
   show [GW (aR X (a+p.1.a)),GW (aR X (a+p.1.b)),.slice (some (GB p.2 0)) N2 N2,.string (X.extract (bd X (a+p.1.a)) (bd X (a+p.1.b)))]=_
   rw[e1,e2,e3];rfl
 refine⟨?_,fun i hi=>dw h.row hi,fun p hp=>?_,fun i hi=>hi.2⟩
 ·rw[key lx (fun _ h=>h),Cn];exact ye h.row (Al _)
 ·obtain⟨q,hq,rfl⟩:=Be.1 hp;refine Or.inr ⟨q.2,?_,⟨(h.fA q hq).1,(h.fA q hq).2.lt⟩,(h.fA q hq).2⟩;show Value.slice _ N2 N2=Value.slice _ q.1.gs.length q.1.gs.length
  rw[(eD q hq).2.2]
structure Qc(w:World)(fb:Nat)(g:FM)(X:ByteArray)(s:cx)(c:FC)(ay fix:Nat->Prop)(w':World)(v:Value)(aG:List (Ev×Value))(b:Nat)(told:Int):Prop where
 mem:∃A,fR w' fb g {c with fr:=aR X b,tl:=told} (s.K X) A s.mt.isSome s.l ay fix
 c_:dY w' (IS w w') v X aG
 rest:s.rest g.ms g.u0 g.G X=aG.map (·.1)++(e_ (eV g.ms (aQ X) g.u0 g.G) (aJ X).length (aR X) false b told).1
 b:s.b<b/\b<=s.r/\s.f<=b
 kept:aa (fun i=>i=fb) w w'
theorem aiO(hg:g.Ok)(h:jJ w fb g X s c ay fix)(hl:s.l=[])(hm:s.mt.isSome=true):
 Calls prog 77 #[BT fb 0] w fun e w'=>∃v aG b told,e=.returned v/\Qc w fb g X s c ay fix w' v aG b told:=by
 obtain⟨A,hM,hA⟩:=h.mem;have hc:=h.fc;have hk:=h.ok;obtain⟨b1,b2,b3,b4,b5,b6⟩:=hk.xw;obtain⟨⟨s0,j⟩,iQ⟩:=Option.isSome_iff_exists.1 hm;have hE:=hk.rR;rw[hl,iQ]at hE;obtain⟨a,gs,a1,a2,a3,a4,a5,a6,a7⟩:=hE.ahy hg.fJ hg.u0 g.G;have aW:=hk.sz;have tt:=hk.rn;have Wk:=hk.ir
 have JJ:s.f<=a:=by
  have:=hk.low.mtc s0 j iQ;rw[a4]at this;rcases Qn (by have:=hk.low.le;omega) this with h|h
  ·exact h
  ·have:=hk.low.le;omega
 obtain⟨c1,c2⟩:=hc.mt s0 j iQ;rw[a4]at c1;have Nc:bd X a<=bd X j:=fZ X a2;have hji:bd X (j+1)<=bd X s.i:=fZ X (by omega);have hjr:bd X (j+1)<=bd X s.r:=fZ X (by omega);have r_:=(pY (s:=X) (i:=j) (by omega)).1;have CL:=fZ X JJ;have JQ:c.ma=(bd X a:Int):=c1;have hmz:c.mz=(bd X j:Int):=c2;have nb:c.aE=(bd X s.f:Int):=hc.aE;have Hz:c.re=(bd X s.r:Int):=hc.re;have oH:c.pl=(bd X s.i:Int):=hc.pl;have kC:oc (eV g.ms (aQ X) g.u0 g.G) (aJ X).length:=wV hg.fJ (aQ X) hg.u0 g.G;have MV:vB X a (oj c (s.K X) c.ma):=by rw[c1];exact Qf hc JJ (by omega) (by omega) b4
 by_cases Wx:c.ag=true/\32<c.pl-c.mz
 ·have uq:ki X (wG c (s.K X) c.ma c.re true) a s.r:=by
   refine⟨?_,c1,by omega,tt,MV,fun hx=>(by cases hx)⟩;show(s.K X).extract (c.ma-c.aE).toNat (c.re-c.aE).toNat=_
   rw[show(c.ma-c.aE).toNat=bd X a-bd X s.f by omega,show(c.re-c.aE).toNat=bd X s.r-bd X s.f by omega];exact cx.range CL (by omega) b3 b4
  refine(aps hg hM (by omega) (by omega) (by omega) (by omega) (by omega) (by omega) (by omega) (by omega) Wx.1 Wx.2).mono ?_;rintro e w' ⟨v,lx,rfl,hL⟩;generalize Xb:wG c (s.K X) c.ma c.re true=x at uq hL;have eG:x.op=true:=by rw[<-Xb];rfl
  obtain⟨dA,nT⟩:=a7 s.r Wk tt;obtain⟨MD,uH,_⟩:=amr hg.fJ uq eG hg.u0 nT;have hxn:=uq.n;obtain⟨e1,e2,e3,e4⟩:=amn hg.fJ uq eG hg.u0 g.G _ 0 s.told (Ab _) (Al _);have hR:oQ g c x=e_ (eV g.ms x g.u0 g.G) x.n x.aZ true 0 s.told:=by unfold oQ;rw[eG,hc.tl]
  rw[<-hR]at e1 e3 e4;have wo:=e4 _ MD uH (by omega)
  have qe:x.fr (oQ g c x).2.1=aR X (a+(oQ g c x).2.1):=by
   rw[CX.Jq e3,uq.aZ (by omega)];unfold CX.aZ aQ aR;simp
  have eD:∀p∈lx,p.1.a<=p.1.b/\p.1.b<=x.n/\p.1.gs.length=2*g.G:=fun p hp=>by
   have oG:p.1∈ (oQ g c x).1:=by rw[<-hL.eq];exact Be.2 ⟨p,hp,rfl⟩
   rw[hR]at oG;refine U1 (P:=fun e=>e.a<=e.b/\e.b<=x.n/\e.gs.length=2*g.G) (wV hg.fJ x hg.u0 g.G) (fun i q gq hi hq=>?_) _ _ _ p.1 oG;have:=DV hg.fJ x hg.u0 hi _ _ _ hq;exact⟨this.1,this.2.1,by rw[this.2.2];simp[gR]⟩
  refine⟨v,_,a+(oQ g c x).2.1,(oQ g c x).2.2,rfl,⟨A,?_⟩,hL.c_.evL uq eD,?_,⟨by omega,by omega,by omega⟩,hL.kept⟩
  ·rw[<-qe];exact hL.mem
  ·unfold cx.rest;rw[U3 (a:=a) a1 (by omega) a6,Fl]
   have:(lx.map ((fun p:Ev×Value=>p.1) ∘fun p=>(wQ a p.1,Value.slice (some (GB p.2 0)) (2*g.G) (2*g.G))))=(oQ g c x).1.map (wQ a):=by
    rw[<-hL.eq,Fl];rfl
   rw[this];exact e1
 ·have mD:j<(aJ X).length:=by omega
  obtain⟨r1,r2⟩:=ae3 mD b4 (show bd X (j+1)<=s.bu by omega);obtain⟨d,hd⟩:∃d,d=Lib.decodeGo (X.extract (bd X j) s.bu):=⟨_,rfl⟩
  rw[<-hd]at r1 r2;have bD:=pY mD
  have eK:(s.K X).extract (c.mz-c.aE).toNat (s.K X).size=X.extract (bd X j) s.bu:=by
   rw[show(c.mz-c.aE).toNat=bd X j-bd X s.f by omega];exact cx.from_ (by omega) (by omega) b4
  have eS:(s.K X).extract (c.ma-c.aE).toNat (c.mz-c.aE).toNat=X.extract (bd X a) (bd X j):=by
   rw[show(c.ma-c.aE).toNat=bd X a-bd X s.f by omega,show(c.mz-c.aE).toNat=bd X j-bd X s.f by omega];exact cx.range CL Nc (by omega) b4
  have uq:ki X (Tc c (s.K X) d.1) a j:=by
   refine⟨eS,c1,a2,by omega,MV,fun _ e b=>?_⟩;show fi e b ((d.1:Nat):Int)=_
   have:(aQ X).gZ j=(aQ X).bF j:=if_pos mD;rw[this,r1]
  have akf:=Yr hg.fJ uq hg.u0 (Al _) (gR g.G);have aje:dd g.ms (Tc c (s.K X) d.1) (g.u0:Int) 0 (gR g.G)=some (j-a,gs):=akf.in_ rfl j gs (by rw[Dr];exact a5) (Ab _)
  have xH:gs.length=2*g.G:=by
   have:=DV hg.fJ (aQ X) hg.u0 (show a<=(aQ X).n by show a<=(aJ X).length;omega) _ _ _ a5;rw[this.2.2];simp[gR]
  refine(apt (d:=d) hg hM (by omega) (by omega) (by omega) (by omega) (by omega) (by omega) (by omega) Wx (by rw[eK,hd]) (by omega) aje xH).mono ?_;rintro e w' ⟨v,rfl,hT⟩
  have qe:(c.told d.2).fr=aR X (tI a j):=by
   have:=al7 (X:=X) (a:=a) (j:=j) (by omega) mD;rw[<-this];show(if c.ma=c.mz then c.mz+(d.2:Int)else c.mz)=_
   rw[c1,c2,show((bd X (j+1)-bd X j:Nat):Int)=(d.2:Int) by omega]
  have zb:(c.told d.2)={c with fr:=aR X (tI a j),tl:=aR X j}:=by
   rw[<-qe,<-c2];rfl
  have Ru:fR w' fb g {c with fr:=aR X (tI a j),tl:=aR X j} (s.K X) A s.mt.isSome s.l ay fix:=by rw[<-zb];exact hT.mem
  have NG:=apr (told:=s.told) kC a1 a2 (by omega) a5 a6;have kx:c.J8= !(aR X a==aR X j&&aR X j==s.told):=by unfold FC.J8;rw[c1,c2,hc.tl]
  rw[<-kx]at NG
  have hb:s.b<tI a j/\tI a j<=s.r/\s.f<=tI a j:=by
   unfold tI;split<;>omega
  cases qg:c.J8 with
  |false=>
   rw[qg]at NG;rw[hT.no qg];exact⟨_,[],tI a j,aR X j,rfl,⟨A,Ru⟩,(dY.nil w' X).mono (fun i hx=>hx.elim) (fun i hx=>hx.2),NG,hb,hT.kept⟩
  |true=>
   rw[qg]at NG;obtain⟨b,gv,rfl,gJ,hB,hG⟩:=hT.yes qg;refine⟨_,[(⟨a,j,gs⟩,gv)],tI a j,aR X j,rfl,⟨A,Ru⟩,⟨?_,fun i hi=>?_,fun p hp=>?_,fun i hx=>hx.2⟩,NG,hb,hT.kept⟩
   ·refine⟨by rfl,Or.inr ⟨b,1,_,rfl,Al _,hB,Ab _,by decide,rfl,?_⟩⟩;show _=iD X [(⟨a,j,gs⟩,gv)]
    rw[eS,c1,c2];rfl
   ·have:b=i:=(by simpa[Value.ownBlock]using hi);rw[<-this];exact⟨gJ,hB.lt⟩
   ·simp only[Bq]at hp;rw[hp];rcases hG with h|⟨gb,h1,h2,h3⟩
    ·exact Or.inl h
    ·exact Or.inr ⟨gb,h1,⟨h2,h3.lt⟩,h3⟩
theorem aiU{s:ByteArray}(h:jI w v s)(hs:s.size<=1000000000000)(hT:iM w):Calls prog 73 #[v] w fun e w'=>e=.returned (.bool (vP s))/\aa ai w w':=by
 by_cases hz:s.size=0
 ·have hf:vP s=false:=by unfold vP Jr;simp[hz]
  rw[hf];rcases h with⟨rfl,_⟩|⟨b,off,cap,rfl,h1,h2⟩
  ·clear hT hf;go_in;go_wp2_with fail;go_ret;exact⟨rfl,aa.refl _ _⟩
  ·rw[hz];clear hT hf h2 h1;go_in;go_wp2_with fail;go_ret;exact⟨rfl,aa.refl _ _⟩
 ·rcases h with⟨_,h0⟩|⟨b,off,cap,rfl,h1,h2⟩
  ·exact absurd h0 hz
  unfold vP;obtain⟨n,hn⟩:∃n,n=s.size:=⟨_,rfl⟩
  have p0:w.cell? (GB b off)=some (.int .u8 ((s.get! 0).toNat:Int)):=h2 0 (by omega);have p1:1<n->w.cell? ⟨b,off+1,none⟩=some (.int .u8 ((s.get! 1).toNat:Int)):=fun h=>h2 1 (by omega)
  have p2:2<n->w.cell? ⟨b,off+2,none⟩=some (.int .u8 ((s.get! 2).toNat:Int)):=fun h=>h2 2 (by omega)
  have l0:=Gz s 0;have l1:=Gz s 1;have l2:=Gz s 2;rw[<-hn]at hz hs⊢;generalize(s.get! 0).toNat=b0 at*;generalize(s.get! 1).toNat=b1 at*;generalize(s.get! 2).toNat=b2 at*;clear hn h2 h1;have nQ:=hT.1 b0 l0;have dm:((n:Int)==0)=false:=by simp;omega
  unfold Jr;have e0:decide (n≠0)=true:=C2 hz;rw[e0,Fb];clear e0;rcases Lib.firstT_cases b0 with hX|hX|hX|hX|hX|hX|hX|hX|hX
  ·rw[hX]at nQ⊢;have gW:(0:Int)<=(n:Int):=(by omega);clear hT p1 p2;go_in;go_wp2_with fail;go_ret;exact⟨by simp,aa.refl _ _⟩
  ·rw[hX]at nQ⊢;have gW:(1:Int)<=(n:Int):=(by omega);have Wh:1<=n:=(by omega);clear hT p1 p2;go_in;go_wp2_with fail;go_ret;exact⟨by simp[Wh],aa.refl _ _⟩
  all_goals
   obtain⟨lo,nc⟩:∃lo,lo=Lib.accLo (Lib.firstT b0/16):=⟨_,rfl⟩
   obtain⟨hi,lX⟩:∃hi,hi=Lib.accHi (Lib.firstT b0/16):=⟨_,rfl⟩
   have ha:=hT.2 (Lib.firstT b0/16) (by rw[hX];decide);rw[<-nc,<-lX]at ha⊢;rw[hX]at nQ ha⊢;simp only[Nat.reduceMul,Nat.reduceAdd,Nat.reduceMod,Nat.reduceDiv]at ha⊢;obtain⟨a0,a1⟩:=ha;have hn4:n=1\/n=2\/n=3\/4<=n:=(by omega);clear hT hX nc lX;rcases hn4 with rfl|rfl|rfl|h4
   ·clear p1 p2;go_in;go_wp2_with fail;go_big_quiet (fail);go_wp2_with fail;go_ret;exact⟨by simp,((aa.refl ai w).alloc _).drewN _⟩
   ·have p1:=p1 (by omega);clear p2;first
    |(go_in
      go_wp2_with fail
      go_ret
      exact⟨by simp,aa.refl _ _⟩)
    |(rcases(show b1<lo\/(¬b1<lo/\hi<b1)\/(¬b1<lo/\¬hi<b1) by omega)with t1|⟨t1,t2⟩|⟨t1,t2⟩
      all_goals
       have A:=au.new w #[.int .u8 (lo:Int),.int .u8 (hi:Int)] 195;have P1:(w.alloc (.cells #[.int .u8 (lo:Int),.int .u8 (hi:Int)] 195)).cell? ⟨b,off+1,none⟩=some (.int .u8 (b1:Int)):=Ft _ p1;have A0:(w.alloc (.cells #[.int .u8 (lo:Int),.int .u8 (hi:Int)] 195)).cell? (GB w.heap.size 0)=some (.int .u8 (lo:Int)):=A.cell 0;have A1:(w.alloc (.cells #[.int .u8 (lo:Int),.int .u8 (hi:Int)] 195)).cell? (GB w.heap.size 1)=some (.int .u8 (hi:Int)):=A.cell 1;have KK:Hid (aa ai w (w.alloc (.cells #[.int .u8 (lo:Int),.int .u8 (hi:Int)] 195))):=(aa.refl ai w).alloc _;clear A;go_in;go_wp2_with fail;generalize(w.alloc (.cells #[.int .u8 (lo:Int),.int .u8 (hi:Int)] 195))=W at*;clear a0 a1 p1 nQ p0;go_big_quiet (fail);go_wp2_with fail;go_ret;exact⟨by simp[*],KK.o.drewN _⟩)
   ·have p1:=p1 (by omega);have p2:=p2 (by omega);first
    |(go_in
      go_wp2_with fail
      go_ret
      exact⟨by simp,aa.refl _ _⟩)
    |(rcases(show b1<lo\/(¬b1<lo/\hi<b1)\/((¬b1<lo/\¬hi<b1)/\b2<128)\/((¬b1<lo/\¬hi<b1)/\¬b2<128/\191<b2)\/((¬b1<lo/\¬hi<b1)/\¬b2<128/\¬191<b2) by omega)with t1|⟨t1,t2⟩|⟨⟨t1,t2⟩,t3⟩|⟨⟨t1,t2⟩,t3,t4⟩|⟨⟨t1,t2⟩,t3,t4⟩
      all_goals
       have A:=au.new w #[.int .u8 (lo:Int),.int .u8 (hi:Int)] 195;have P1:(w.alloc (.cells #[.int .u8 (lo:Int),.int .u8 (hi:Int)] 195)).cell? ⟨b,off+1,none⟩=some (.int .u8 (b1:Int)):=Ft _ p1;have P2:(w.alloc (.cells #[.int .u8 (lo:Int),.int .u8 (hi:Int)] 195)).cell? ⟨b,off+2,none⟩=some (.int .u8 (b2:Int)):=Ft _ p2;have A0:(w.alloc (.cells #[.int .u8 (lo:Int),.int .u8 (hi:Int)] 195)).cell? (GB w.heap.size 0)=some (.int .u8 (lo:Int)):=A.cell 0;have A1:(w.alloc (.cells #[.int .u8 (lo:Int),.int .u8 (hi:Int)] 195)).cell? (GB w.heap.size 1)=some (.int .u8 (hi:Int)):=A.cell 1;have KK:Hid (aa ai w (w.alloc (.cells #[.int .u8 (lo:Int),.int .u8 (hi:Int)] 195))):=(aa.refl ai w).alloc _;clear A;go_in;go_wp2_with fail;generalize(w.alloc (.cells #[.int .u8 (lo:Int),.int .u8 (hi:Int)] 195))=W at*;clear a0 a1 p1 p2 nQ p0;go_big_quiet (fail);go_wp2_with fail;go_ret;exact⟨by simp[*],KK.o.drewN _⟩)
   ·have gW:(4:Int)<=(n:Int):=(by omega);clear p1 p2;go_in;go_wp2_with fail;go_ret;exact⟨by simp;omega,aa.refl _ _⟩
theorem aiI(hg:g.Ok)(hc:Pa X s c)(hk:mT g.ms g.u0 X s)(hT:Qc w fb g X s c ay fix w' v aG b told)(k1:∃A,fR w1 fb g {c with fr:=aR X b,tl:=told} (s.K X) A s.mt.isSome s.l ay fix):
 Calls prog 78 #[BT fb 0] w1 fun e qx=>e=.returned (.tuple #[])/\∃Ix,jJ qx fb g X (s.jo b told) ({c with fr:=aR X b,tl:=told}:FC).jo Ix fix/\cH (fun i=>ay i\/i=fb) Ix w1 qx:=by
 obtain⟨A,hM⟩:=k1;obtain⟨b1,b2,b3,b4,b5,b6⟩:=hk.xw;obtain⟨jM,oB,GL⟩:=hT.b;have tt:=hk.rn;have aW:=hk.sz;have xG:=fZ X oB;have M6:=fZ X GL;have nb:c.aE=(bd X s.f:Int):=hc.aE;refine(aiZ hM (show 0<=c.aE by omega) (show c.aE<=aR X b by unfold aR;omega) (show aR X b-c.aE<=_ by unfold aR;omega) (show aR X b<=_ by unfold aR;omega) (by omega)).mono ?_;rintro e qx ⟨rfl,Ix,h1,h2⟩;refine⟨rfl,Ix,⟨⟨_,h1,?_⟩,⟨hc.aE,hc.j9,rfl,hc.re,rfl,rfl,fun a j hm=>(by cases hm),hc.ov⟩,hk.jo told GL oB⟩,h2⟩;have:=Qf hc GL (show b<=(aJ X).length by omega) (by omega) b4;exact this.ah g.ms
theorem aiK(hg:g.Ok)(h:jJ w fb g X s c ay fix)(qf:s.l=[]->s.mt=none)(hf:yU X s.i s.l=aR X f)(ze:f<=s.i):
 Calls prog 79 #[BT fb 0,GW (aR X f)] w fun e w'=>e=.returned (.tuple #[])/\∃c',jJ w' fb g X (s.Gr f) c' ay fix/\cH (FO fb c ay) (FO fb c' ay) w w'/\c'.wn=c.wn:=by
 obtain⟨A,hM,hA⟩:=h.mem;have hc:=h.fc;have hk:=h.ok;obtain⟨b1,b2,b3,b4,b5,b6⟩:=hk.xw;have xK:=hk.low.mono;rw[hf]at xK;have aW:=hk.sz;have nb:c.aE=(bd X s.f:Int):=hc.aE;have ajx:=fZ X ze
 have uv:s.f<=f:=by
  rcases Qn (by have:=hk.low.le;omega) xK with h|h
  ·exact h
  ·have:=hk.low.le;omega
 have CL:=fZ X uv;by_cases hle:aR X f<=c.aE
 ·have he:f=s.f:=Ql (X:=X) (by omega) (by have:=hk.low.le;omega) (by rw[hc.aE]at hle;omega);refine(aid hM hle).mono ?_;rintro e w' ⟨rfl,rfl⟩;refine⟨rfl,c,?_,cH.refl _ _,rfl⟩;rw[he];exact h
 ·have We:aR X f=(bd X f:Int):=rfl;refine(aie hM (by omega) (by omega) (by omega) (by omega) (by omega)).mono ?_;rintro e w' ⟨rfl,v',h1,h2,h3⟩
  have eK:(s.K X).extract (aR X f-c.aE).toNat (s.K X).size=(s.Gr f).K X:=by
   rw[show(aR X f-c.aE).toNat=bd X f-bd X s.f by omega];exact cx.from_ CL (by omega) b4
  rw[eK]at h1;have pB:f<=(aJ X).length:=by omega
  have hfq:bd X f<=s.bu:=by omega
  refine⟨rfl,_,⟨⟨A,h1,hA⟩,⟨rfl,Qf hc uv pB hfq b4,hc.pl,hc.re,hc.tl,hc.md,hc.mt,hc.ov⟩,hk.Gr (xl.BL hk.rR hf ze qf)⟩,⟨h2.mono (fun i hi=>Or.inr (Or.inl hi)),fun i hi=>?_⟩,rfl⟩;rcases hi with hi|hi|hi
  ·exact Or.inl (Or.inl hi)
  ·exact Or.inl (Or.inr (Or.inl hi))
  ·exact Or.inr (h3 i hi)
theorem alb(h:a<=b)(hb:b+n<=X.size):jY (X.extract a b)++jY (X.extract b (b+n))=jY (X.extract a (b+n)):=by
 unfold jY;rw[<-Ca];congr 1;rw[C0,C0,C0,show b+n-b=n by omega,show b+n-a=(b-a)+n by omega,List.take_add,List.drop_drop,show a+(b-a)=b by omega]
theorem aiL{v':Value}(h:jJ w fb g X s c ay fix)(hn:s.bu+n<=X.size)(bC:w1.ownsRow 0 5 1 v' ((s.K X).size+n) (jY (s.K X)++jY (X.extract s.bu (s.bu+n))))(hg:w.grownBy w1 c.kv.ownBlock)(jC:v'.ownBlock=c.kv.ownBlock\/v'.ownBlock=some w.heap.size):
 au w1 fb c.cells 124/\jJ (w1.setCell (GB fb 4) v') fb g X (s.fp n) {c with kv:=v'} ay fix/\cH (FO fb c ay) (FO fb {c with kv:=v'} ay) w (w1.setCell (GB fb 4) v'):=by
 obtain⟨A,hM,hA⟩:=h.mem;have hc:=h.fc;have hk:=h.ok;obtain⟨b1,b2,b3,b4,b5,b6⟩:=hk.xw;have k1:aa (fun j=>c.kv.ownBlock=some j) w w1:=(aa.refl _ w).eP hg (fun j hj=>Or.inl hj);have B1:au w1 fb c.cells 124:=hM.aq.kept k1 (fun hx=>hM.ub hx);have k2:aa (fun i=>i=fb\/c.kv.ownBlock=some i) w (w1.setCell (GB fb 4) v'):=(k1.mono (S':=fun i=>i=fb\/c.kv.ownBlock=some i) (fun i hi=>Or.inr hi)).setCell (p:=(GB fb 4)) (Or.inl (Or.inl rfl)) _
 have VW:∀i,v'.ownBlock=some i->c.kv.ownBlock=some i\/w.heap.size<=i:=fun i hi=>by
  rcases jC with e|e
  ·exact Or.inl (by rw[<-e];exact hi)
  ·rw[e]at hi;cases hi;exact Or.inr (Ab _)
 have eK:jY (s.K X)++jY (X.extract s.bu (s.bu+n))=jY ((s.fp n).K X):=alb (by omega) hn
 have eS:(s.K X).size+n=((s.fp n).K X).size:=by
  rw[b6];show _=(X.extract (bd X s.f) (s.bu+n)).size
  rw[extract_size X _ _ hn];omega
 rw[eK,eS]at bC
 have Wg:v'.ownBlock≠some fb:=fun e=>by
  rcases VW fb e with h1|h1
  ·exact hM.ub h1
  ·have:=hM.aq.lt;omega
 refine⟨B1,⟨⟨A,hM.afl k2 (B1.setCell 4 v') ⟨rfl,rfl,rfl,rfl⟩ ?_ VW,hA⟩,⟨hc.aE,hc.j9,hc.pl,hc.re,hc.tl,hc.md,hc.mt,hc.ov⟩,hk.fp hn⟩,⟨k2.mono (fun i hi=>hi.elim (fun h=>Or.inr (Or.inl h)) (fun h=>Or.inr (Or.inr h))),fun i hi=>?_⟩⟩
 ·exact bU bC ((aa.refl (fun i=>i=fb) w1).setCell (p:=(GB fb 4)) (Or.inl rfl) _) (fun b hb hx=>Wg (by rw[<-hx];exact hb))
 ·rcases hi with hi|hi|hi
  ·exact Or.inl (Or.inl hi)
  ·exact Or.inl (Or.inr (Or.inl hi))
  ·exact(VW i hi).elim (fun h=>Or.inl (Or.inr (Or.inr h))) Or.inr
theorem aiM(h:jJ w fb g X s c ay fix):
 jJ (w.setCell (GB fb 4) c.kv) fb g X s c ay fix/\cH (FO fb c ay) (FO fb c ay) w (w.setCell (GB fb 4) c.kv):=by
 obtain⟨A,hM,hA⟩:=h.mem;have k2:aa (fun i=>i=fb) w (w.setCell (GB fb 4) c.kv):=(aa.refl (fun i=>i=fb) w).setCell (p:=(GB fb 4)) (Or.inl rfl) _;exact⟨⟨⟨A,hM.put k2 (hM.aq.setCell 4 c.kv) ⟨rfl,rfl,rfl,rfl,rfl⟩,hA⟩,h.fc,h.ok⟩,⟨k2.mono (fun i hi=>Or.inr (Or.inl hi)),fun i hi=>Or.inl hi⟩⟩
theorem ait(T:Nat->iT)(n:Nat)(b:Nat->Int)(op:Bool):∀(k i:Nat) (told:Int),(kt T n b op k i told).1.length<=k:=by
 intro k;induction k with
 |zero=>intro i told;simp[kt]
 |succ k ih=>
  intro i told;unfold kt;by_cases hn:n<i
  ·rw[if_pos hn];simp
  ·rw[if_neg hn]
   cases e:T i with
   |none=>have:=ih (i+1) told;simp only;omega
   |some v=>
    obtain⟨j,gs⟩:=v;simp only;split
    ·simp
    ·split
     ·split
      ·have:=ih (j+1) told;omega
      ·have:=ih (j+1) (b j);simp only[Ax];omega
     ·have:=ih j (b j);simp only[Ax];omega
theorem alB{b' i:Nat}(h:b<b')(hb:b'<=n):(n+1-b')*(n+2)+(n-b')<(n+1-b)*(n+2)+(n-i):=by
 obtain⟨e,he⟩:∃e,n+1-b=(n+1-b')+1+e:=⟨b'-b-1,by omega⟩
 rw[he,Cw,Cw];omega
structure Pd(g:FM)(X:ByteArray)(J:cx->Prop):Prop where
 step:∀s A,J s->mT g.ms g.u0 X s->(s.l=[]->s.mt=none)->pR g.ms ((aQ X).ahead s.i) A->s.i<(aJ X).length->bd X (s.i+1)<=s.bu->J (s.step g.ms g.u0 X A)
 jo:∀s b told,J s->mT g.ms g.u0 X s->s.l=[]->s.mt.isSome=true->J (s.jo b told)
 drop:∀s f,J s->s.f<=f->J (s.Gr f)
structure sR(w0:World)(fb:Nat)(g:FM)(X:ByteArray)(c0:FC)(pK fix:Nat->Prop)(bu:Nat)(R0:List Ev)(J:cx->Prop)(s:cx)(c:FC)(ay O:Nat->Prop)(v:Value)(aG:List (Ev×Value))(wr:World):Prop where
 at_:jJ wr fb g X s c ay fix
 c_:dY wr O v X aG
 ap:∀i,O i->w0.heap.size<=i/\¬FO fb c ay i
 dt:cH (FO fb c0 pK) (FO fb c ay) w0 wr
 rest:R0=aG.map (·.1)++s.rest g.ms g.u0 g.G X
 bu:s.bu=bu
 wn:c.wn=c0.wn
 j:J s
 fx:∀i,fix i\/g.cP i->i<w0.heap.size
theorem sR.new(h:sR w0 fb g X c0 pK fix bu R0 J s c ay O v aG wr)(k:aa ai wr w'):sR w0 fb g X c0 pK fix bu R0 J s c ay O v aG w':=
 ⟨h.at_.new k,h.c_.new k,h.ap,⟨h.dt.kept.b_ k (fun i _ hx=>hx.elim),h.dt.aq⟩,h.rest,h.bu,h.wn,h.j,h.fx⟩
theorem sR.step{s':cx}(h:sR w0 fb g X c0 pK fix bu R0 J s c ay O v aG wr)(hs:StX wr fb g X s s' c ay fix w' c' cG)(hj:J s'):sR w0 fb g X c0 pK fix bu R0 J s' c' cG O v aG w' where
 at_:=hs.at_
 c_:=h.c_.kept hs.dt.kept (fun i hi=>(h.ap i hi).2)
 ap i hi:=⟨(h.ap i hi).1,fun hf=>(hs.dt.aq i hf).elim (h.ap i hi).2 (fun hn=>by have:=h.c_.lt i hi;omega)⟩
 dt:=h.dt.trans hs.dt
 rest:=by
  have e:s'.rest g.ms g.u0 g.G X=s.rest g.ms g.u0 g.G X:=by unfold cx.rest;rw[hs.tl.1,hs.tl.2.1]
  rw[e];exact h.rest
 bu:=by rw[hs.tl.2.2.2.1];exact h.bu
 wn:=by rw[hs.tl.2.2.2.2.2];exact h.wn
 j:=hj
 fx:=h.fx
structure Qb(w0:World)(fb:Nat)(g:FM)(X:ByteArray)(c0:FC)(pK fix:Nat->Prop)(bu:Nat)(R0:List Ev)(J:cx->Prop)(s:cx)(c:FC)(ay O:Nat->Prop)(v:Value)(aG:List (Ev×Value))(w2:World)(b:Nat)(told:Int):Prop where
 mem:∃A,fR w2 fb g {c with fr:=aR X b,tl:=told} (s.K X) A s.mt.isSome s.l ay fix
 c_:dY w2 O v X aG
 ap:∀i,O i->w0.heap.size<=i/\¬FO fb c ay i
 dt:cH (FO fb c0 pK) (FO fb c ay) w0 w2
 rest:R0=aG.map (·.1)++(e_ (eV g.ms (aQ X) g.u0 g.G) (aJ X).length (aR X) false b told).1
theorem sR.apo{v3:Value}{dh:List (Ev×Value)}(h:sR w0 fb g X c0 pK fix bu R0 J s c ay O v aG wr)(hT:Qc wr fb g X s c ay fix w1 v2 dh b told)
 (bC:w2.ownsRow 0 46 4 v3 (aG.length+dh.length) (iD X aG++iD X dh))(hg:w1.grownBy w2 v.ownBlock)(jC:v3.ownBlock=v.ownBlock\/v3.ownBlock=some w1.heap.size):
 ∃O',Qb w0 fb g X c0 pK fix bu R0 J s c ay O' v3 (aG++dh) w2 b told:=by
 obtain⟨A,hM⟩:=h.at_.mem;have az:∀i,FO fb c ay i->i<wr.heap.size:=fun i hi=>hM.1.lt (Or.inl hi)
 have cZ:=hT.kept.size;have E1:dY w1 O v X aG:=h.c_.kept hT.kept (fun i hi hx=>(h.ap i hi).2 (Or.inr (Or.inl hx)));obtain⟨E2,K2⟩:=E1.append hT.c_ (aa.refl ai w1) bC hg jC;have hvO:∀i,v.ownBlock=some i->O i:=h.c_.DU
 obtain⟨A2,GI⟩:=hT.mem;refine⟨_,⟨A2,GI.kept K2 (fun i hi=>?_)⟩,E2,fun i hi=>?_,⟨?_,?_⟩,?_⟩
 ·have:=h.ap i (hvO i hi);exact⟨this.2,fun hf=>by have:=h.fx i (Or.inl hf);omega,fun hf=>by have:=h.fx i (Or.inr hf);omega⟩
 ·rcases hi with hi|hi|⟨hi,_⟩
  ·exact h.ap i hi
  ·have:=h.dt.kept.size;exact⟨by have:=hi.1;omega,fun hf=>by have:=az i hf;have:=hi.1;omega⟩
  ·have:=h.dt.kept.size;exact⟨by omega,fun hf=>by have:=az i hf;omega⟩
 ·have k02:aa (fun i=>i=fb\/v.ownBlock=some i) wr w2:=(hT.kept.mono (S':=fun i=>i=fb\/v.ownBlock=some i) (fun i hi=>Or.inl hi)).b_ K2 (fun i _ hi=>Or.inr hi);refine h.dt.kept.b_ k02 (fun i hi hx=>?_);rcases hx with hx|hx
  ·exact(h.dt.aq i (Or.inr (Or.inl hx))).elim id (fun hn=>by omega)
  ·have:=(h.ap i (hvO i hx)).1;omega
 ·exact h.dt.aq
 ·rw[h.rest,hT.rest,Ca,Bu]
theorem sR.apq(h:sR w0 fb g X c0 pK fix bu R0 J s c ay O v aG wr)(hT:Qc wr fb g X s c ay fix w1 v2 [] b told):Qb w0 fb g X c0 pK fix bu R0 J s c ay O v aG w1 b told:=by
 refine⟨hT.mem,h.c_.kept hT.kept (fun i hi hx=>(h.ap i hi).2 (Or.inr (Or.inl hx))),h.ap,⟨h.dt.kept.b_ hT.kept (fun i hi hx=>?_),h.dt.aq⟩,?_⟩
 ·exact(h.dt.aq i (Or.inr (Or.inl hx))).elim id (fun hn=>by omega)
 ·rw[h.rest,hT.rest];rfl
theorem dY.one{l:List (Ev×Value)}(h:dY w O v X l):∀u∈iD X l,u.oneCell'=true:=fun u hu=>by
 unfold iD at hu;obtain⟨p,hp,hu⟩:=Ez.1 hu;unfold pw at hu;simp only[Ct,Fq,or_false]at hu;rcases hu with rfl|rfl|rfl|rfl
 ·rfl
 ·rfl
 ·rcases h.fA p hp with⟨e,_⟩|⟨gb,e,_⟩
  ·rw[e];rfl
  ·rw[e];rfl
 ·rfl
theorem Qb.jo{w3:World}(h:Qb w0 fb g X c0 pK fix bu R0 J s c ay O v aG w2 b told)(ha:jJ w3 fb g X (s.jo b told) c' cG fix)(hg:cH (fun i=>ay i\/i=fb) cG w2 w3)(oF:c'.kv=c.kv)(CK:s.bu=bu)(RM:c'.wn=c0.wn)(hj:J (s.jo b told))(hfx:∀i,fix i\/g.cP i->i<w0.heap.size):
 sR w0 fb g X c0 pK fix bu R0 J (s.jo b told) c' cG O v aG w3 where
 at_:=ha
 c_:=h.c_.kept hg.kept (fun i hi hx=>(h.ap i hi).2 (hx.elim Or.inl (fun e=>Or.inr (Or.inl e))))
 ap i hi:=⟨(h.ap i hi).1,fun hf=>by
  rcases hf with hf|hf|hf
  ·rcases hg.aq i hf with(hx|hx)|hx
   ·exact(h.ap i hi).2 (Or.inl hx)
   ·exact(h.ap i hi).2 (Or.inr (Or.inl hx))
   ·have:=h.c_.lt i hi;omega
  ·exact(h.ap i hi).2 (Or.inr (Or.inl hf))
  ·rw[oF]at hf;exact(h.ap i hi).2 (Or.inr (Or.inr hf))⟩
 dt:=by
  have hs:=h.dt.kept.size;refine⟨h.dt.kept.b_ hg.kept (fun i hi hx=>?_),fun i hf=>?_⟩
  ·exact(h.dt.aq i (hx.elim Or.inl (fun e=>Or.inr (Or.inl e)))).elim id (fun hn=>by omega)
  ·rcases hf with hf|hf|hf
   ·rcases hg.aq i hf with hx|hx
    ·exact h.dt.aq i (hx.elim Or.inl (fun e=>Or.inr (Or.inl e)))
    ·exact Or.inr (by omega)
   ·exact h.dt.aq i (Or.inr (Or.inl hf))
   ·rw[oF]at hf;exact h.dt.aq i (Or.inr (Or.inr hf))
 rest:=h.rest
 bu:=CK
 wn:=RM
 j:=hj
 fx:=hfx
structure xr(w:World)(fb:Nat)(g:FM)(X:ByteArray)(s:cx)(n:Nat)(c:FC)(ay fix:Nat->Prop)(J:cx->Prop)(v:Value)(aG:List (Ev×Value))(s':cx)(c':FC)(cG O:Nat->Prop)(w':World):Prop where
 at_:jJ w' fb g X s' c' cG fix
 c_:dY w' O v X aG
 ap:∀i,O i->w.heap.size<=i/\¬FO fb c' cG i
 dt:cH (FO fb c ay) (FO fb c' cG) w w'
 rest:s.rest g.ms g.u0 g.G X=aG.map (·.1)++s'.rest g.ms g.u0 g.G X
 bu:s'.bu=s.bu+n
 fO:s'.l=[]->s'.mt=none
 BL:yU X s'.i s'.l=aR X s'.f
 full:vP (X.extract (bd X s'.i) s'.bu)=false
 wn:c'.wn=c.wn
 j:J s'
theorem Yj(ms:List MS)(u0 G:Nat)(X:ByteArray)(s:cx):(s.rest ms u0 G X).length<=(aJ X).length+1:=by
 unfold cx.rest e_;have:=ait (eV ms (aQ X) u0 G) (aJ X).length (aR X) false ((aJ X).length+1-s.b) s.b s.told;omega
theorem aiT{ms:List MS}{u0:Nat}(hk:mT ms u0 X s)(hf:yU X s.i s.l=aR X f)(ze:f<=s.i):s.f<=f:=by
 obtain⟨b1,b2,b3,b4,b5,b6⟩:=hk.xw;have xK:=hk.low.mono;rw[hf]at xK;have aW:=hk.sz;have ajx:=fZ X ze;rcases Qn (by have:=hk.low.le;omega) xK with h|h
 ·exact h
 ·have:=hk.low.le;omega
theorem apn{pv:Value}(hg:g.Ok)(h:jJ w fb g X s c ay fix)(qf:s.l=[]->s.mt=none)(hn:s.bu+n<=X.size)(hp:jI w pv (X.extract s.bu (s.bu+n)))(hJ:Pd g X J)(hj:J (s.fp n)):
 Calls prog 49 #[BT fb 0,pv] w fun e w'=>∃v aG s' c' cG O,e=.returned v/\xr w fb g X s n c ay fix J v aG s' c' cG O w':=by
 have aW:(X.extract s.bu (s.bu+n)).size=n:=by rw[extract_size X _ _ hn];omega
 have hp:(pv=.slice none 0 0/\n=0)\/∃b off cap,pv=.slice (some (GB b off)) n cap/\∀j,j<n->w.cell? ⟨b,off+j,none⟩=some (.int .u8 ((X.extract s.bu (s.bu+n)).get! j).toNat):=by
  rcases hp with⟨h1,h2⟩|⟨b,off,cap,h1,h2,h3⟩
  ·exact Or.inl ⟨h1,by omega⟩
  ·rw[aW]at h1 h3;exact Or.inr ⟨b,off,cap,h1,h3⟩
 have hXs:=h.ok.sz;have H:=ab h;have Pp:=ab qf;have HJ:=ab hJ;have Pq:=ab hj;have c4:w.cell? (GB fb 4)=some c.kv:=by obtain⟨A,hM,_⟩:=h.mem;exact hM.aq.cell 4
 have f4:w.frozen? (GB fb 4)=false:=by obtain⟨A,hM,_⟩:=h.mem;exact hM.aq.frozen 4
 obtain⟨dU,hKs⟩:w.ownsRow 0 5 1 c.kv (s.K X).size (jY (s.K X))/\(s.K X).size<=10000000:=by
  obtain⟨A,hM,_⟩:=h.mem;refine⟨hM.kp,?_⟩;obtain⟨b1,b2,b3,b4,b5,b6⟩:=h.ok.xw;omega
 have ik:=ab dU;obtain⟨ka,kn,kc,oF⟩:∃ka kn kc,c.kv=.slice ka kn kc:=by obtain⟨a,b,h⟩:=cw dU;exact⟨a,_,b,h⟩
 obtain⟨i0,cW,dm,du,de⟩:=Bo Tryz.acY;clear h qf hJ hj dU;go_in;go_upto_region 2 with fail
 go_cut [5] (fun v5 wx=>v5=.slice none 0 0/\∃c1,Hid (jJ wx fb g X (s.fp n) c1 ay fix)/\Hid (cH (FO fb c ay) (FO fb c1 ay) w wx)/\Hid (c1.wn=c.wn))
 case first=>
  rw[oF]at c4;rcases hp with⟨rfl,Nl⟩|⟨pb,po,pc,rfl,qW⟩
  ·subst Nl;have aA:=ab (aiM H.o);rw[oF]at aA;have HR:Hid (w.ownsRow 0 5 1 (.slice ka kn kc) (s.K X).size (jY (s.K X))):=by rw[oF]at ik;exact ik
   clear H Pp HJ Pq aW ik oF;go_wp2_with (at_builtin;refine Eh rfl _ _ 42 rfl 0 5 i0 1 underlying42 cW _ _ _ rfl HR.o rfl ?_);go_meet
   case rel=>exact⟨rfl,c,aA.o.1,aA.o.2,rfl⟩
  ·have HN:Hid (∀j u,(jY (X.extract s.bu (s.bu+n)))[j]? =some u->w.cell? (((GB pb po):Addr).add j)=some u):=fun j u Wo=>by
    have Hg:=(Ai.1 Wo).1;rw[UL,aW]at Hg;rw[aaP _ (by rw[aW];exact Hg)]at Wo;rw[Jc,qW j Hg];exact Wo
   have HR:Hid (w.ownsRow 0 5 1 (.slice ka kn kc) (s.K X).size (jY (s.K X))):=by rw[oF]at ik;exact ik
   have Ug:=(ab fun(w1:World) (v':Value) a b d=>aiL (w1:=w1) (v':=v') H.o hn a b d);rw[oF]at Ug;have rJ:=ab aW;have ab_:(s.K X).size+n<=100000000:=(by omega);clear H Pp HJ Pq ik oF qW aW;go_wp2_with (at_builtin;refine Ao _ rfl _ _ 42 rfl 0 5 i0 _ 1 1 underlying42 cW dm du de rfl (by decide) _ _ _ rfl HR.o (GB pb po) n pc (jY (X.extract s.bu (s.bu+n))) rfl ?c0 ?c1 ?c2 ?c3 ?c4 ?c5 ?_)
   case c0=>rw[UL,rJ.o,Fg]
   case c1=>exact HN.o
   case c2=>
    intro u hu;unfold jY at hu;obtain⟨x,_,rfl⟩:=Be.1 hu;rfl
   case c3=>unfold maxLen;omega
   case c4=>omega
   case c5=>exact Al _
   intro v' w7 bL cy eF jC;obtain⟨jl,c',H7⟩:=cw bL;obtain⟨B1,F1,G1⟩:=Ug.o w7 v' bL cy jC;have d4:w7.cell? (GB fb 4)=some c.kv:=B1.cell 4;have e4:w7.frozen? (GB fb 4)=false:=B1.frozen 4;have F1:=ab F1;have G1:=ab G1;clear Ug HN HR bL cy eF jC B1 c4 f4;subst H7;go_wp2_with fail;go_meet
   case rel=>exact⟨rfl,_,F1,G1,rfl⟩
 case rest=>
  obtain⟨rfl,c1,HF,HG,HW⟩:=hcut;have dD:Hid (sR wc fb g X c1 ay fix (s.bu+n) (s.rest g.ms g.u0 g.G X) J (s.fp n) c1 ay ai (.slice none 0 0) [] wc):=⟨HF.o,dY.nil wc X,fun i hx=>hx.elim,cH.refl _ _,rfl,rfl,rfl,Pq.o,fun i hi=>by obtain⟨A,hM,_⟩:=HF.o.mem;exact hM.lt (Or.inr hi)⟩;have rI:=Yj g.ms g.u0 g.G X s;have HRL:=OD X;have aqv:(s.fp n).b<=(aJ X).length:=by have:=HF.o.ok.rR.le;omega
  clear HF ik c4 f4 H hp Pq cW dm du de oF aW hKs;clear i0 ka kn kc;go_wp2_with fail;go_loopg [5] (((aJ X).length+1-(s.fp n).b)*((aJ X).length+2)+((aJ X).length-(s.fp n).i)) (fun kk v wr=>∃(s1:cx) (c2:FC) (XZ O1:Nat->Prop) (aG:List (Ev×Value)),kk=((aJ X).length+1-s1.b)*((aJ X).length+2)+((aJ X).length-s1.i)/\Hid (sR wc fb g X c1 ay fix (s.bu+n) (s.rest g.ms g.u0 g.G X) J s1 c2 XZ O1 v aG wr)/\Hid (s1.l=[]->s1.mt=none))
  case atStart=>exact⟨s.fp n,c1,ay,ai,[],rfl,dD,Pp⟩
  case round=>
   obtain⟨s1,c2,XZ,O1,aG,eE,HI,tS⟩:=hrel;clear dD Pp;obtain⟨b1,b2,b3,b4,b5,b6⟩:=HI.o.at_.ok.xw;have oH:c2.pl=(bd X s1.i:Int):=HI.o.at_.fc.pl;have nb:c2.aE=(bd X s1.f:Int):=HI.o.at_.fc.aE;obtain⟨A1,iW,hA1⟩:=HI.o.at_.mem;have q7:wr.cell? (GB fb 7)=some (GW c2.pl):=iW.aq.cell 7;have F1:=RT (pl:=c2.pl) iW.aq (zN iW.kp) (by omega) (by omega) (by omega) (by omega)
   have eK:(s1.K X).extract (c2.pl-c2.aE).toNat (s1.K X).size=X.extract (bd X s1.i) s1.bu:=by
    rw[show(c2.pl-c2.aE).toNat=bd X s1.i-bd X s1.f by omega];exact cx.from_ b1 (by omega) b4
   rw[eK]at F1;have F1:=ab F1;have HT:=ab iW.ma.jS;have iO:(X.extract (bd X s1.i) s1.bu).size<=1000000000000:=by rw[extract_size X _ _ b4];omega
   obtain⟨ao,cv,hv⟩:=cw HI.o.c_.row;subst hv;have pW:=ab eE;clear eK iW hA1 b1 b2 b3 b6 oH nb eE;go_wp2_with fail;refine(F1.o).mono ?_;rintro e w2 ⟨⟨vb,rfl,tf⟩,n2,rfl⟩;have F2:=ab (aiU (w:=wr.drewN n2) (tf.new ((aa.refl _ wr).drewN n2)) iO (HT.o.iR ((aa.refl _ wr).drewN n2)));clear F1 tf q7 iO HT;go_wp2_with fail;refine(F2.o).mono ?_;rintro e w3 ⟨rfl,k3⟩;have tT:=ab (HI.o.new (((aa.refl ai wr).drewN n2).trans k3));clear F2 k3 HI;obtain⟨fl,pB⟩:∃fl,fl=vP (X.extract (bd X s1.i) s1.bu):=⟨_,rfl⟩
   rw[<-pB]
   cases fl with
   |false=>
    have ZJ:=ab pB;clear pB;obtain⟨A3,MJ,hA3⟩:=tT.o.at_.mem;obtain⟨f,f1,f2,f3,f4⟩:=tT.o.at_.ok.rR.BL hg.fJ hg.u0 g.G tS.o;have F4:=abL MJ;rw[tT.o.at_.fc.pl,show((s1.l.head?.map (·.2)).getD (aR X s1.i))=aR X f from f3]at F4;have F4:=ab F4;have F5:=ab (aiK hg tT.o.at_ tS.o f3 f2);have EG:=ab f3;have EH:=ab (aiT tT.o.at_.ok f3 f2);clear MJ hA3 f3 f4;go_wp2_with fail;refine(F4.o).mono ?_;rintro e w4 ⟨rfl,rfl⟩;clear F4;go_wp2_with fail;refine(F5.o).mono ?_;rintro e w5 ⟨rfl,c5,MF,QO,NI⟩
    have aA:Hid (xr w fb g X s n c ay fix J (.slice ao aG.length cv) aG (s1.Gr f) c5 XZ O1 w5):=by
     have h:=tT.o;refine⟨MF,h.c_.kept QO.kept (fun i hi=>(h.ap i hi).2),fun i hi=>⟨Bh HG.o.kept.size (h.ap i hi).1,fun hf=>(QO.aq i hf).elim (h.ap i hi).2 (fun hx=>by have:=h.c_.lt i hi;omega)⟩,(HG.o.trans h.dt).trans QO,h.rest,h.bu,tS.o,EG.o,?_,by rw[NI,h.wn,HW.o],HJ.o.drop _ _ h.j EH.o⟩;exact ZJ.o.symm
    clear F5 MF QO NI tT tS EG ZJ HG HW;go_wp2_with fail;go_ret;exact⟨_,_,_,_,_,_,rfl,aA.o⟩
   |true=>
    obtain⟨oE,lH⟩:=abM b5 b4 pB.symm;have F4:=ab (aiN hg tT.o.at_ pB.symm);clear pB;go_wp2_with fail;refine(F4.o).mono ?_;rintro e w4 ⟨rfl,s4,c4,Iz,hS⟩
    have Rh:J s4:=by
     obtain⟨A,e,hA⟩:=hS.ty;rw[e];exact HJ.o.step s1 A tT.o.j tT.o.at_.ok tS.o hA oE lH
    have fq:=ab (tT.o.step hS Rh);have VY:s4.b=s1.b/\s4.i=s1.i+1:=⟨hS.tl.1,hS.tl.2.2.1⟩;clear F4 hS Rh tT tS
    have F5:Calls prog 76 #[BT fb 0] w4 fun e w'=>e=.returned (.bool (s4.mt.isSome&&s4.l.isEmpty))/\w'=w4:=by
     obtain⟨A4,um,_⟩:=fq.o.at_.mem;rw[<-fq.o.at_.fc.md];exact ahz um
    have F5:=ab F5;obtain⟨ce,V7⟩:∃ce,ce=(s4.mt.isSome&&s4.l.isEmpty):=⟨_,rfl⟩
    rw[<-V7]at F5;have jU:=ab VY;have IW:=ab V7;clear V7 VY;go_wp2_with fail;refine(F5.o).mono ?_;rintro e w5 ⟨rfl,rfl⟩;clear F5
    cases ce with
    |false=>
     have agh:Hid (s4.l=[]->s4.mt=none):=fun hl=>by
      have:=IW.o;rw[hl]at this;simp at this;exact this
     have HM:Hid (((aJ X).length+1-s4.b)*((aJ X).length+2)+((aJ X).length-s4.i)<((aJ X).length+1-s1.b)*((aJ X).length+2)+((aJ X).length-s1.i)):=by
      show _<_
      rw[jU.o.1,jU.o.2];omega
     clear jU IW;go_wp2_with fail;go_roundg (((aJ X).length+1-s4.b)*((aJ X).length+2)+((aJ X).length-s4.i))
     case measure=>rw[pW.o];exact HM.o
     case rel=>exact⟨s4,c4,Iz,O1,aG,rfl,fq,agh⟩
    |true=>
     have jD:s4.l=[]/\s4.mt.isSome=true:=by
      have:=IW.o;simp only[Bool.true_eq,Cq,List.isEmpty_iff]at this;exact⟨this.2,this.1⟩
     have F6:=ab (aiO hg fq.o.at_ jD.1 jD.2);have K_:=ab jD;obtain⟨ie,qg,NM,lJ,JD⟩:=Bo Tryz.Xh;clear jD IW;go_wp2_with fail;refine(F6.o).mono ?_;rintro e w6 ⟨v6,Oe,b6,tN,rfl,hT⟩
     have HM:Hid (((aJ X).length+1-(s4.jo b6 tN).b)*((aJ X).length+2)+((aJ X).length-(s4.jo b6 tN).i)<((aJ X).length+1-s1.b)*((aJ X).length+2)+((aJ X).length-s1.i)):=by
      show _<_
      have h1:=jU.o.1;have h2:=hT.b;have h3:=fq.o.at_.ok.rn;exact alB (n:=(aJ X).length) (b:=s1.b) (b':=b6) (i:=s1.i) (by omega) (by omega)
     have dc:aG.length+Oe.length<=10000001:=by
      have h1:=congrArg List.length fq.o.rest;have h2:=congrArg List.length hT.rest;simp only[Aj,Cn]at h1 h2;omega
     have Ph:Hid (∀w7,(∃A,fR w7 fb g {c4 with fr:=aR X b6,tl:=tN} (s4.K X) A s4.mt.isSome s4.l Iz fix)->Calls prog 78 #[BT fb 0] w7 fun e qx=>e=.returned (.tuple #[])/\∃Ix,jJ qx fb g X (s4.jo b6 tN) ({c4 with fr:=aR X b6,tl:=tN}:FC).jo Ix fix/\cH (fun i=>Iz i\/i=fb) Ix w7 qx):=fun w7 hm=>aiI hg fq.o.at_.fc fq.o.at_.ok hT hm
     have hj6:J (s4.jo b6 tN):=HJ.o.jo s4 b6 tN fq.o.j fq.o.at_.ok K_.o.1 K_.o.2;have xc:=ab (And.intro fq.o.bu (And.intro fq.o.wn (And.intro hj6 fq.o.fx)));clear F6 jU K_ hj6;rcases hT.c_.cell with⟨rfl,rfl⟩|⟨eg,ec,rfl,hec,mC⟩
     ·have AI:=ab (fq.o.apq hT);have ik:Hid (w6.ownsRow 0 46 4 (.slice ao aG.length cv) aG.length (iD X aG)):=AI.o.c_.row;clear hT fq dc;go_wp2_with (at_builtin;refine Eh rfl _ _ 24 rfl 0 46 ie 4 underlying24 qg _ _ _ rfl ik.o rfl ?_);refine(Ph.o w6 AI.o.mem).mono ?_;rintro e w7 ⟨rfl,amE,hA7,hG7⟩;have HI7:=ab (AI.o.jo hA7 hG7 rfl xc.o.1 xc.o.2.1 xc.o.2.2.1 xc.o.2.2.2);clear hA7 hG7 Ph AI ik xc;go_wp2_with fail;go_roundg (((aJ X).length+1-(s4.jo b6 tN).b)*((aJ X).length+2)+((aJ X).length-(s4.jo b6 tN).i))
      case measure=>rw[pW.o];exact HM.o
      case rel=>exact⟨s4.jo b6 tN,_,amE,O1,aG,rfl,HI7,fun _=>rfl⟩
     ·have HTT:=(ab fun(w7:World) (v7:Value) a b d=>fq.o.apo (v3:=v7) (w2:=w7) hT a b d);have ik:Hid (w6.ownsRow 0 46 4 (.slice ao aG.length cv) aG.length (iD X aG)):=(fq.o.c_.kept hT.kept (fun i hi hx=>(fq.o.ap i hi).2 (Or.inr (Or.inl hx)))).row;have HC:=ab (And.intro mC (And.intro hT.c_.one (aby X Oe)));clear hT fq mC;go_wp2_with (at_builtin;refine Ao _ rfl _ _ 24 rfl 0 46 ie _ 4 56 underlying24 qg NM lJ JD rfl (by decide) _ _ _ rfl ik.o (GB eg 0) Oe.length ec (iD X Oe) rfl ?c0 ?c1 ?c2 ?c3 ?c4 ?c5 ?_)
      case c0=>exact HC.o.2.2
      case c1=>exact HC.o.1
      case c2=>exact HC.o.2.1
      case c3=>unfold maxLen;omega
      case c4=>omega
      case c5=>exact Al _
      intro v7 w7 j0 wh Hr yZ;obtain⟨O7,hT7⟩:=HTT.o w7 v7 j0 wh yZ;have I3:=ab hT7;obtain⟨yM,Qx,J2⟩:=cw j0;clear HTT HC ik j0 wh Hr yZ hT7;subst J2;go_wp2_with fail;refine(Ph.o w7 I3.o.mem).mono ?_;rintro e w8 ⟨rfl,amF,hA8,hG8⟩;have HI8:=ab (I3.o.jo hA8 hG8 rfl xc.o.1 xc.o.2.1 xc.o.2.2.1 xc.o.2.2.2);clear hA8 hG8 Ph I3 xc;go_wp2_with fail;go_roundg (((aJ X).length+1-(s4.jo b6 tN).b)*((aJ X).length+2)+((aJ X).length-(s4.jo b6 tN).i))
      case measure=>rw[pW.o];exact HM.o
      case rel=>exact⟨s4.jo b6 tN,_,amF,O7,aG++Oe,rfl,HI8,fun _=>rfl⟩
