/- Package flow's tell, told of a text X -/
import Derived.Test.YtpdnofhackjfdaaGreatDoorP42
set_option linter.all false
set_option maxRecDepth 100000
set_option maxHeartbeats 8000000
namespace Go.Proofs.YtpdnofhackjfdaaGreatDoor
open Go.Proofs.Tryz
open Go.RowKit Go.Maps
variable {X:ByteArray} {c c' c0:FC} {g:FM} {s:bZ} {J:bZ->Prop} {told:Int} {aP:List (Ev×Value)} {R0:List Ev} {a b fb aX n:Nat} {O fix au cJ rY:Nat->Prop} {v v2:Value} {w w' w0 w1 w2 wr:World}
def NQ(w w':World)(i:Nat):Prop:=w.heap.size<=i/\i<w'.heap.size
theorem mA.evL{x:CX}{N2:Nat}{lx:List (Ev×Nat)}{r:Nat}(h:mA w w0.heap.size v x N2 lx)(hS:jZ X x a r)(dR:∀p∈lx,p.1.a<=p.1.b/\p.1.b<=x.n/\p.1.gs.length=N2):
 eW w (NQ w0 w) v X (lx.map fun p=>(vY a p.1,.slice (some ⟨p.2,0,none⟩) N2 N2)):=by
 have hn:=hS.n;have hl:=hS.le
 have key:∀m:List (Ev×Nat),(∀p∈m,p∈lx)->gN X (m.map fun p=>(vY a p.1,.slice (some ⟨p.2,0,none⟩) N2 N2))=yk x N2 m:=by
  intro m;induction m with
  |nil=>intro _;rfl
  |cons p m ih=>
   intro hm;have hp:=dR p (hm p (by simp));have uh:=ih (fun q hq=>hm q (List.mem_cons_of_mem _ hq));have e1:aN X (a+p.1.a)=x.aW p.1.a:=by rw[hS.aW (by omega)];unfold CX.aW aM aN;simp
   have e2:aN X (a+p.1.b)=x.aW p.1.b:=by rw[hS.aW (by omega)];unfold CX.aW aM aN;simp
   have e3:X.extract (bd X (a+p.1.a)) (bd X (a+p.1.b))=x.s.extract (bd x.s p.1.a) (bd x.s p.1.b):=by
    have q1:=hS.bd (k:=p.1.a) (by omega);have q2:=hS.bd (k:=p.1.b) (by omega);have q3:=fY X (show a<=a+p.1.a by omega);have q4:=fY X (show a<=a+p.1.b by omega);have q5:=fY X (show a+p.1.b<=r by omega);rw[hS.s,O9 X _ _ _ _ (by rw[<-hS.s];omega)];rw[hS.s]at q1 q2;congr 1<;>omega
   show sI X (vY a p.1) _++_=wP x N2 p.1 p.2++_
   congr 1
   show [Value.int .i64 (aN X (a+p.1.a)),.int .i64 (aN X (a+p.1.b)),.slice (some ⟨p.2,0,none⟩) N2 N2,.string (X.extract (bd X (a+p.1.a)) (bd X (a+p.1.b)))]=_
   rw[e1,e2,e3];rfl
 refine⟨?_,fun i hi=>dw h.row hi,fun p hp=>?_,fun i hi=>hi.2⟩
 ·rw[key lx (fun _ h=>h),Co];exact xy h.row (Am _)
 ·obtain⟨q,hq,rfl⟩:=Bf.1 hp;refine Or.inr ⟨q.2,?_,⟨(h.fE q hq).1,(h.fE q hq).2.lt⟩,(h.fE q hq).2⟩;show Value.slice _ N2 N2=Value.slice _ q.1.gs.length q.1.gs.length
  rw[(dR q hq).2.2]
structure OC(w:World)(fb:Nat)(g:FM)(X:ByteArray)(s:bZ)(c:FC)(au fix:Nat->Prop)(w':World)(v:Value)(aP:List (Ev×Value))(b:Nat)(told:Int):Prop where
 mem:∃A,fH w' fb g {c with fr:=aN X b,tl:=told} (s.K X) A s.mt.isSome s.l au fix
 cS:eW w' (NQ w w') v X aP
 rest:s.rest g.ms g.u0 g.G X=aP.map (·.1)++(eM (eG g.ms (aM X) g.u0 g.G) (aF X).length (aN X) false b told).1
 b:s.b<b/\b<=s.r/\s.f<=b
 kept:aa (fun i=>i=fb) w w'
theorem ahZ(hg:g.Ok)(h:jz w fb g X s c au fix)(hl:s.l=[])(hm:s.mt.isSome=true):
 Calls prog 77 #[.pointer (some ⟨fb,0,none⟩)] w fun e w'=>∃v aP b told,e=.returned v/\OC w fb g X s c au fix w' v aP b told:=by
 obtain⟨A,hM,hA⟩:=h.mem;have hc:=h.fc;have hk:=h.ok;obtain⟨b1,b2,b3,b4,b5,b6⟩:=hk.yg;obtain⟨⟨s0,j⟩,iF⟩:=Option.isSome_iff_exists.1 hm;have hE:=hk.rp;rw[hl,iF]at hE;obtain⟨a,gs,a1,a2,a3,a4,a5,a6,a7⟩:=hE.agJ hg.ft hg.u0 g.G;have aS:=hk.sz;have sW:=hk.rn;have US:=hk.ir
 have IR:s.f<=a:=by
  have:=hk.low.mtc s0 j iF;rw[a4]at this;rcases Tj (by have:=hk.low.le;omega) this with h|h
  ·exact h
  ·have:=hk.low.le;omega
 obtain⟨c1,c2⟩:=hc.mt s0 j iF;rw[a4]at c1;have L5:bd X a<=bd X j:=fY X a2;have hji:bd X (j+1)<=bd X s.i:=fY X (by omega);have hjr:bd X (j+1)<=bd X s.r:=fY X (by omega);have rG:=(pE (s:=X) (i:=j) (by omega)).1;have AJ:=fY X IR;have IZ:c.ma=(bd X a:Int):=c1;have hmz:c.mz=(bd X j:Int):=c2;have mJ:c.aB=(bd X s.f:Int):=hc.aB;have Gj:c.re=(bd X s.r:Int):=hc.re;have oo:c.pl=(bd X s.i:Int):=hc.pl;have kh:nO (eG g.ms (aM X) g.u0 g.G) (aF X).length:=wh hg.ft (aM X) hg.u0 g.G;have LJ:uY X a (nT c (s.K X) c.ma):=by rw[c1];exact OF hc IR (by omega) (by omega) b4
 by_cases U6:c.ag=true/\32<c.pl-c.mz
 ·have tR:jZ X (vQ c (s.K X) c.ma c.re true) a s.r:=by
   refine⟨?_,c1,by omega,sW,LJ,fun hx=>(by cases hx)⟩;show(s.K X).extract (c.ma-c.aB).toNat (c.re-c.aB).toNat=_
   rw[show(c.ma-c.aB).toNat=bd X a-bd X s.f by omega,show(c.re-c.aB).toNat=bd X s.r-bd X s.f by omega];exact bZ.range AJ (by omega) b3 b4
  refine(aof hg hM (by omega) (by omega) (by omega) (by omega) (by omega) (by omega) (by omega) (by omega) U6.1 U6.2).mono ?_;rintro e w' ⟨v,lx,rfl,hL⟩;generalize Vy:vQ c (s.K X) c.ma c.re true=x at tR hL;have dY:x.op=true:=by rw[<-Vy];rfl
  obtain⟨dp,nF⟩:=a7 s.r US sW;obtain⟨Lv,ue,_⟩:=alz hg.ft tR dY hg.u0 nF;have hxn:=tR.n;obtain⟨e1,e2,e3,e4⟩:=alu hg.ft tR dY hg.u0 g.G _ 0 s.told (Ab _) (Am _);have hR:oA g c x=eM (eG g.ms x g.u0 g.G) x.n x.aW true 0 s.told:=by unfold oA;rw[dY,hc.tl]
  rw[<-hR]at e1 e3 e4;have xc:=e4 _ Lv ue (by omega)
  have pJ:x.fr (oA g c x).2.1=aN X (a+(oA g c x).2.1):=by
   rw[CX.Iz e3,tR.aW (by omega)];unfold CX.aW aM aN;simp
  have dR:∀p∈lx,p.1.a<=p.1.b/\p.1.b<=x.n/\p.1.gs.length=2*g.G:=fun p hp=>by
   have om:p.1∈ (oA g c x).1:=by rw[<-hL.eq];exact Bf.2 ⟨p,hp,rfl⟩
   rw[hR]at om;refine TC (P:=fun e=>e.a<=e.b/\e.b<=x.n/\e.gs.length=2*g.G) (wh hg.ft x hg.u0 g.G) (fun i q gq hi hq=>?_) _ _ _ p.1 om;have:=BZ hg.ft x hg.u0 hi _ _ _ hq;exact⟨this.1,this.2.1,by rw[this.2.2];simp[gH]⟩
  refine⟨v,_,a+(oA g c x).2.1,(oA g c x).2.2,rfl,⟨A,?_⟩,hL.cS.evL tR dR,?_,⟨by omega,by omega,by omega⟩,hL.kept⟩
  ·rw[<-pJ];exact hL.mem
  ·unfold bZ.rest;rw[TD (a:=a) a1 (by omega) a6,Fz]
   have:(lx.map ((fun p:Ev×Value=>p.1) ∘fun p=>(vY a p.1,Value.slice (some ⟨p.2,0,none⟩) (2*g.G) (2*g.G))))=(oA g c x).1.map (vY a):=by
    rw[<-hL.eq,Fz];rfl
   rw[this];exact e1
 ·have mg:j<(aF X).length:=by omega
  obtain⟨r1,r2⟩:=aeh mg b4 (show bd X (j+1)<=s.aX by omega);obtain⟨d,hd⟩:∃d,d=Lib.decodeGo (X.extract (bd X j) s.aX):=⟨_,rfl⟩
  rw[<-hd]at r1 r2;have bt:=pE mg
  have eK:(s.K X).extract (c.mz-c.aB).toNat (s.K X).size=X.extract (bd X j) s.aX:=by
   rw[show(c.mz-c.aB).toNat=bd X j-bd X s.f by omega];exact bZ.from_ (by omega) (by omega) b4
  have eS:(s.K X).extract (c.ma-c.aB).toNat (c.mz-c.aB).toNat=X.extract (bd X a) (bd X j):=by
   rw[show(c.ma-c.aB).toNat=bd X a-bd X s.f by omega,show(c.mz-c.aB).toNat=bd X j-bd X s.f by omega];exact bZ.range AJ L5 (by omega) b4
  have tR:jZ X (RC c (s.K X) d.1) a j:=by
   refine⟨eS,c1,a2,by omega,LJ,fun _ e b=>?_⟩;show eU e b ((d.1:Nat):Int)=_
   have:(aM X).gM j=(aM X).bu j:=if_pos mg;rw[this,r1]
  have ajn:=WW hg.ft tR hg.u0 (Am _) (gH g.G);have aip:cW g.ms (RC c (s.K X) d.1) (g.u0:Int) 0 (gH g.G)=some (j-a,gs):=ajn.in_ rfl j gs (by rw[Dm];exact a5) (Ab _)
  have wW:gs.length=2*g.G:=by
   have:=BZ hg.ft (aM X) hg.u0 (show a<=(aM X).n by show a<=(aF X).length;omega) _ _ _ a5;rw[this.2.2];simp[gH]
  refine(aog (d:=d) hg hM (by omega) (by omega) (by omega) (by omega) (by omega) (by omega) (by omega) U6 (by rw[eK,hd]) (by omega) aip wW).mono ?_;rintro e w' ⟨v,rfl,hT⟩
  have pJ:(c.told d.2).fr=aN X (tg a j):=by
   have:=alc (X:=X) (a:=a) (j:=j) (by omega) mg;rw[<-this];show(if c.ma=c.mz then c.mz+(d.2:Int)else c.mz)=_
   rw[c1,c2,show((bd X (j+1)-bd X j:Nat):Int)=(d.2:Int) by omega]
  have yv:(c.told d.2)={c with fr:=aN X (tg a j),tl:=aN X j}:=by
   rw[<-pJ,<-c2];rfl
  have Qe:fH w' fb g {c with fr:=aN X (tg a j),tl:=aN X j} (s.K X) A s.mt.isSome s.l au fix:=by rw[<-yv];exact hT.mem
  have Ms:=aoe (told:=s.told) kh a1 a2 (by omega) a5 a6;have ke:c.Jg= !(aN X a==aN X j&&aN X j==s.told):=by unfold FC.Jg;rw[c1,c2,hc.tl]
  rw[<-ke]at Ms
  have hb:s.b<tg a j/\tg a j<=s.r/\s.f<=tg a j:=by
   unfold tg;split<;>omega
  cases mK:c.Jg with
  |false=>
   rw[mK]at Ms;rw[hT.no mK];exact⟨_,[],tg a j,aN X j,rfl,⟨A,Qe⟩,(eW.nil w' X).mono (fun i hx=>hx.elim) (fun i hx=>hx.2),Ms,hb,hT.kept⟩
  |true=>
   rw[mK]at Ms;obtain⟨b,gv,rfl,gz,hB,hG⟩:=hT.yes mK;refine⟨_,[(⟨a,j,gs⟩,gv)],tg a j,aN X j,rfl,⟨A,Qe⟩,⟨?_,fun i hi=>?_,fun p hp=>?_,fun i hx=>hx.2⟩,Ms,hb,hT.kept⟩
   ·refine⟨by rfl,Or.inr ⟨b,1,_,rfl,Am _,hB,Ab _,by decide,rfl,?_⟩⟩;show _=gN X [(⟨a,j,gs⟩,gv)]
    rw[eS,c1,c2];rfl
   ·have:b=i:=(by simpa[Value.ownBlock]using hi);rw[<-this];exact⟨gz,hB.lt⟩
   ·simp only[Bm]at hp;rw[hp];rcases hG with h|⟨gb,h1,h2,h3⟩
    ·exact Or.inl h
    ·exact Or.inr ⟨gb,h1,⟨h2,h3.lt⟩,h3⟩
theorem ah6{s:ByteArray}(h:jL w v s)(hs:s.size<=1000000000000)(hT:ik w):Calls prog 73 #[v] w fun e w'=>e=.returned (.bool (vm s))/\aa af w w':=by
 by_cases hz:s.size=0
 ·have hf:vm s=false:=by unfold vm IA;simp[hz]
  rw[hf];rcases h with⟨rfl,_⟩|⟨b,off,cap,rfl,h1,h2⟩
  ·clear hT hf;go_in;go_wp2_with fail;go_ret;exact⟨rfl,aa.refl _ _⟩
  ·rw[hz];clear hT hf h2 h1;go_in;go_wp2_with fail;go_ret;exact⟨rfl,aa.refl _ _⟩
 ·rcases h with⟨_,h0⟩|⟨b,off,cap,rfl,h1,h2⟩
  ·exact absurd h0 hz
  unfold vm;obtain⟨n,hn⟩:∃n,n=s.size:=⟨_,rfl⟩
  have p0:w.cell? ⟨b,off,none⟩=some (.int .u8 ((s.get! 0).toNat:Int)):=h2 0 (by omega);have p1:1<n->w.cell? ⟨b,off+1,none⟩=some (.int .u8 ((s.get! 1).toNat:Int)):=fun h=>h2 1 (by omega)
  have p2:2<n->w.cell? ⟨b,off+2,none⟩=some (.int .u8 ((s.get! 2).toNat:Int)):=fun h=>h2 2 (by omega)
  have l0:=DY s 0;have l1:=DY s 1;have l2:=DY s 2;rw[<-hn]at hz hs⊢;generalize(s.get! 0).toNat=b0 at*;generalize(s.get! 1).toNat=b1 at*;generalize(s.get! 2).toNat=b2 at*;clear hn h2 h1;have nC:=hT.1 b0 l0;have di:((n:Int)==0)=false:=by simp;omega
  unfold IA;have e0:decide (n≠0)=true:=Cx hz;rw[e0,E0];clear e0;rcases Lib.firstT_cases b0 with hX|hX|hX|hX|hX|hX|hX|hX|hX
  ·rw[hX]at nC⊢;have im:(0:Int)<=(n:Int):=(by omega);clear hT p1 p2;go_in;go_wp2_with fail;go_ret;exact⟨by simp,aa.refl _ _⟩
  ·rw[hX]at nC⊢;have im:(1:Int)<=(n:Int):=(by omega);have UP:1<=n:=(by omega);clear hT p1 p2;go_in;go_wp2_with fail;go_ret;exact⟨by simp[UP],aa.refl _ _⟩
  all_goals
   obtain⟨lo,mL⟩:∃lo,lo=Lib.accLo (Lib.firstT b0/16):=⟨_,rfl⟩
   obtain⟨hi,lK⟩:∃hi,hi=Lib.accHi (Lib.firstT b0/16):=⟨_,rfl⟩
   have ha:=hT.2 (Lib.firstT b0/16) (by rw[hX];decide);rw[<-mL,<-lK]at ha⊢;rw[hX]at nC ha⊢;simp only[Nat.reduceMul,Nat.reduceAdd,Nat.reduceMod,Nat.reduceDiv]at ha⊢;obtain⟨a0,a1⟩:=ha;have hn4:n=1\/n=2\/n=3\/4<=n:=(by omega);clear hT hX mL lK;rcases hn4 with rfl|rfl|rfl|h4
   ·clear p1 p2;go_in;go_wp2_with fail;go_big_quiet (fail);go_wp2_with fail;go_ret;exact⟨by simp,((aa.refl af w).alloc _).drewN _⟩
   ·have p1:=p1 (by omega);clear p2;first
    |(go_in
      go_wp2_with fail
      go_ret
      exact⟨by simp,aa.refl _ _⟩)
    |(rcases(show b1<lo\/(¬b1<lo/\hi<b1)\/(¬b1<lo/\¬hi<b1) by omega)with t1|⟨t1,t2⟩|⟨t1,t2⟩
      all_goals
       have A:=aq.new w #[.int .u8 (lo:Int),.int .u8 (hi:Int)] 195;have P1:(w.alloc (.cells #[.int .u8 (lo:Int),.int .u8 (hi:Int)] 195)).cell? ⟨b,off+1,none⟩=some (.int .u8 (b1:Int)):=Fm _ p1;have A0:(w.alloc (.cells #[.int .u8 (lo:Int),.int .u8 (hi:Int)] 195)).cell? ⟨w.heap.size,0,none⟩=some (.int .u8 (lo:Int)):=A.cell 0;have A1:(w.alloc (.cells #[.int .u8 (lo:Int),.int .u8 (hi:Int)] 195)).cell? ⟨w.heap.size,1,none⟩=some (.int .u8 (hi:Int)):=A.cell 1;have KK:Hid (aa af w (w.alloc (.cells #[.int .u8 (lo:Int),.int .u8 (hi:Int)] 195))):=(aa.refl af w).alloc _;clear A;go_in;go_wp2_with fail;generalize(w.alloc (.cells #[.int .u8 (lo:Int),.int .u8 (hi:Int)] 195))=W at*;clear a0 a1 p1 nC p0;go_big_quiet (fail);go_wp2_with fail;go_ret;exact⟨by simp[*],KK.out.drewN _⟩)
   ·have p1:=p1 (by omega);have p2:=p2 (by omega);first
    |(go_in
      go_wp2_with fail
      go_ret
      exact⟨by simp,aa.refl _ _⟩)
    |(rcases(show b1<lo\/(¬b1<lo/\hi<b1)\/((¬b1<lo/\¬hi<b1)/\b2<128)\/((¬b1<lo/\¬hi<b1)/\¬b2<128/\191<b2)\/((¬b1<lo/\¬hi<b1)/\¬b2<128/\¬191<b2) by omega)with t1|⟨t1,t2⟩|⟨⟨t1,t2⟩,t3⟩|⟨⟨t1,t2⟩,t3,t4⟩|⟨⟨t1,t2⟩,t3,t4⟩
      all_goals
       have A:=aq.new w #[.int .u8 (lo:Int),.int .u8 (hi:Int)] 195;have P1:(w.alloc (.cells #[.int .u8 (lo:Int),.int .u8 (hi:Int)] 195)).cell? ⟨b,off+1,none⟩=some (.int .u8 (b1:Int)):=Fm _ p1;have P2:(w.alloc (.cells #[.int .u8 (lo:Int),.int .u8 (hi:Int)] 195)).cell? ⟨b,off+2,none⟩=some (.int .u8 (b2:Int)):=Fm _ p2;have A0:(w.alloc (.cells #[.int .u8 (lo:Int),.int .u8 (hi:Int)] 195)).cell? ⟨w.heap.size,0,none⟩=some (.int .u8 (lo:Int)):=A.cell 0;have A1:(w.alloc (.cells #[.int .u8 (lo:Int),.int .u8 (hi:Int)] 195)).cell? ⟨w.heap.size,1,none⟩=some (.int .u8 (hi:Int)):=A.cell 1;have KK:Hid (aa af w (w.alloc (.cells #[.int .u8 (lo:Int),.int .u8 (hi:Int)] 195))):=(aa.refl af w).alloc _;clear A;go_in;go_wp2_with fail;generalize(w.alloc (.cells #[.int .u8 (lo:Int),.int .u8 (hi:Int)] 195))=W at*;clear a0 a1 p1 p2 nC p0;go_big_quiet (fail);go_wp2_with fail;go_ret;exact⟨by simp[*],KK.out.drewN _⟩)
   ·have im:(4:Int)<=(n:Int):=(by omega);clear p1 p2;go_in;go_wp2_with fail;go_ret;exact⟨by simp;omega,aa.refl _ _⟩
theorem ahS(hg:g.Ok)(hc:NP X s c)(hk:mV g.ms g.u0 X s)(hT:OC w fb g X s c au fix w' v aP b told)(k1:∃A,fH w1 fb g {c with fr:=aN X b,tl:=told} (s.K X) A s.mt.isSome s.l au fix):
 Calls prog 78 #[.pointer (some ⟨fb,0,none⟩)] w1 fun e pX=>e=.returned (.tuple #[])/\∃GU,jz pX fb g X (s.jg b told) ({c with fr:=aN X b,tl:=told}:FC).jg GU fix/\cF (fun i=>au i\/i=fb) GU w1 pX:=by
 obtain⟨A,hM⟩:=k1;obtain⟨b1,b2,b3,b4,b5,b6⟩:=hk.yg;obtain⟨jD,od,EG⟩:=hT.b;have sW:=hk.rn;have aS:=hk.sz;have wV:=fY X od;have LU:=fY X EG;have mJ:c.aB=(bd X s.f:Int):=hc.aB;refine(ah_ hM (show 0<=c.aB by omega) (show c.aB<=aN X b by unfold aN;omega) (show aN X b-c.aB<=_ by unfold aN;omega) (show aN X b<=_ by unfold aN;omega) (by omega)).mono ?_;rintro e pX ⟨rfl,GU,h1,h2⟩;refine⟨rfl,GU,⟨⟨_,h1,?_⟩,⟨hc.aB,hc.jV,rfl,hc.re,rfl,rfl,fun a j hm=>(by cases hm),hc.ov⟩,hk.jg told EG od⟩,h2⟩;have:=OF hc EG (show b<=(aF X).length by omega) (by omega) b4;exact this.ah g.ms
theorem ahU{f:Nat}(hg:g.Ok)(h:jz w fb g X s c au fix)(pK:s.l=[]->s.mt=none)(hf:zW X s.i s.l=aN X f)(ET:f<=s.i):
 Calls prog 79 #[.pointer (some ⟨fb,0,none⟩),.int .i64 (aN X f)] w fun e w'=>e=.returned (.tuple #[])/\∃c',jz w' fb g X (s.DQ f) c' au fix/\cF (FO fb c au) (FO fb c' au) w w'/\c'.wn=c.wn:=by
 obtain⟨A,hM,hA⟩:=h.mem;have hc:=h.fc;have hk:=h.ok;obtain⟨b1,b2,b3,b4,b5,b6⟩:=hk.yg;have FU:=hk.low.mono;rw[hf]at FU;have aS:=hk.sz;have mJ:c.aB=(bd X s.f:Int):=hc.aB;have apu:=fY X ET
 have tU:s.f<=f:=by
  rcases Tj (by have:=hk.low.le;omega) FU with h|h
  ·exact h
  ·have:=hk.low.le;omega
 have AJ:=fY X tU;by_cases hle:aN X f<=c.aB
 ·have he:f=s.f:=OM (X:=X) (by omega) (by have:=hk.low.le;omega) (by rw[hc.aB]at hle;omega);refine(ahn hM hle).mono ?_;rintro e w' ⟨rfl,rfl⟩;refine⟨rfl,c,?_,cF.refl _ _,rfl⟩;rw[he];exact h
 ·have UM:aN X f=(bd X f:Int):=rfl;refine(aho hM (by omega) (by omega) (by omega) (by omega) (by omega)).mono ?_;rintro e w' ⟨rfl,v',h1,h2,h3⟩
  have eK:(s.K X).extract (aN X f-c.aB).toNat (s.K X).size=(s.DQ f).K X:=by
   rw[show(aN X f-c.aB).toNat=bd X f-bd X s.f by omega];exact bZ.from_ AJ (by omega) b4
  rw[eK]at h1;have oY:f<=(aF X).length:=by omega
  have hfq:bd X f<=s.aX:=by omega
  refine⟨rfl,_,⟨⟨A,h1,hA⟩,⟨rfl,OF hc tU oY hfq b4,hc.pl,hc.re,hc.tl,hc.md,hc.mt,hc.ov⟩,hk.DQ (wE.zV hk.rp hf ET pK)⟩,⟨h2.mono (fun i hi=>Or.inr (Or.inl hi)),fun i hi=>?_⟩,rfl⟩;rcases hi with hi|hi|hi
  ·exact Or.inl (Or.inl hi)
  ·exact Or.inl (Or.inr (Or.inl hi))
  ·exact Or.inr (h3 i hi)
theorem aki(h:a<=b)(hb:b+n<=X.size):jQ (X.extract a b)++jQ (X.extract b (b+n))=jQ (X.extract a (b+n)):=by
 unfold jQ;rw[<-Ch];congr 1;rw[Cu,Cu,Cu,show b+n-b=n by omega,show b+n-a=(b-a)+n by omega,List.take_add,List.drop_drop,show a+(b-a)=b by omega]
theorem ahW{v':Value}(h:jz w fb g X s c au fix)(hn:s.aX+n<=X.size)(bk:w1.ownsRow 0 5 1 v' ((s.K X).size+n) (jQ (s.K X)++jQ (X.extract s.aX (s.aX+n))))(hg:w.grownBy w1 c.kv.ownBlock)(iT:v'.ownBlock=c.kv.ownBlock\/v'.ownBlock=some w.heap.size):
 aq w1 fb c.cells 124/\jz (w1.setCell ⟨fb,4,none⟩ v') fb g X (s.eV n) {c with kv:=v'} au fix/\cF (FO fb c au) (FO fb {c with kv:=v'} au) w (w1.setCell ⟨fb,4,none⟩ v'):=by
 obtain⟨A,hM,hA⟩:=h.mem;have hc:=h.fc;have hk:=h.ok;obtain⟨b1,b2,b3,b4,b5,b6⟩:=hk.yg;have k1:aa (fun j=>c.kv.ownBlock=some j) w w1:=(aa.refl _ w).eN hg (fun j hj=>Or.inl hj);have B1:aq w1 fb c.cells 124:=hM.ak.kept k1 (fun hx=>hM.tI hx);have k2:aa (fun i=>i=fb\/c.kv.ownBlock=some i) w (w1.setCell ⟨fb,4,none⟩ v'):=(k1.mono (S':=fun i=>i=fb\/c.kv.ownBlock=some i) (fun i hi=>Or.inr hi)).setCell (p:=⟨fb,4,none⟩) (Or.inl (Or.inl rfl)) _
 have Uw:∀i,v'.ownBlock=some i->c.kv.ownBlock=some i\/w.heap.size<=i:=fun i hi=>by
  rcases iT with e|e
  ·exact Or.inl (by rw[<-e];exact hi)
  ·rw[e]at hi;cases hi;exact Or.inr (Ab _)
 have eK:jQ (s.K X)++jQ (X.extract s.aX (s.aX+n))=jQ ((s.eV n).K X):=aki (by omega) hn
 have eS:(s.K X).size+n=((s.eV n).K X).size:=by
  rw[b6];show _=(X.extract (bd X s.f) (s.aX+n)).size
  rw[extract_size X _ _ hn];omega
 rw[eK,eS]at bk
 have UO:v'.ownBlock≠some fb:=fun e=>by
  rcases Uw fb e with h1|h1
  ·exact hM.tI h1
  ·have:=hM.ak.lt;omega
 refine⟨B1,⟨⟨A,hM.aeB k2 (B1.setCell 4 v') ⟨rfl,rfl,rfl,rfl⟩ ?_ Uw,hA⟩,⟨hc.aB,hc.jV,hc.pl,hc.re,hc.tl,hc.md,hc.mt,hc.ov⟩,hk.eV hn⟩,⟨k2.mono (fun i hi=>hi.elim (fun h=>Or.inr (Or.inl h)) (fun h=>Or.inr (Or.inr h))),fun i hi=>?_⟩⟩
 ·exact bR bk ((aa.refl (fun i=>i=fb) w1).setCell (p:=⟨fb,4,none⟩) (Or.inl rfl) _) (fun b hb hx=>UO (by rw[<-hx];exact hb))
 ·rcases hi with hi|hi|hi
  ·exact Or.inl (Or.inl hi)
  ·exact Or.inl (Or.inr (Or.inl hi))
  ·exact(Uw i hi).elim (fun h=>Or.inl (Or.inr (Or.inr h))) Or.inr
theorem ahX(h:jz w fb g X s c au fix):
 jz (w.setCell ⟨fb,4,none⟩ c.kv) fb g X s c au fix/\cF (FO fb c au) (FO fb c au) w (w.setCell ⟨fb,4,none⟩ c.kv):=by
 obtain⟨A,hM,hA⟩:=h.mem;have k2:aa (fun i=>i=fb) w (w.setCell ⟨fb,4,none⟩ c.kv):=(aa.refl (fun i=>i=fb) w).setCell (p:=⟨fb,4,none⟩) (Or.inl rfl) _;exact⟨⟨⟨A,hM.put k2 (hM.ak.setCell 4 c.kv) ⟨rfl,rfl,rfl,rfl,rfl⟩,hA⟩,h.fc,h.ok⟩,⟨k2.mono (fun i hi=>Or.inr (Or.inl hi)),fun i hi=>Or.inl hi⟩⟩
theorem ahC(T:Nat->iH)(n:Nat)(b:Nat->Int)(op:Bool):∀(k i:Nat) (told:Int),(j9 T n b op k i told).1.length<=k:=by
 intro k;induction k with
 |zero=>intro i told;simp[j9]
 |succ k ih=>
  intro i told;unfold j9;by_cases hn:n<i
  ·rw[if_pos hn];simp
  ·rw[if_neg hn]
   cases e:T i with
   |none=>have:=ih (i+1) told;simp only;omega
   |some v=>
    obtain⟨j,gs⟩:=v;simp only;split
    ·simp
    ·split
     ·split
      ·have:=ih (j+1) told;omega
      ·have:=ih (j+1) (b j);simp only[Ax];omega
     ·have:=ih j (b j);simp only[Ax];omega
theorem akH{b' i:Nat}(h:b<b')(hb:b'<=n):(n+1-b')*(n+2)+(n-b')<(n+1-b)*(n+2)+(n-i):=by
 obtain⟨e,he⟩:∃e,n+1-b=(n+1-b')+1+e:=⟨b'-b-1,by omega⟩
 rw[he,Cq,Cq];omega
structure NS(g:FM)(X:ByteArray)(J:bZ->Prop):Prop where
 step:∀s A,J s->mV g.ms g.u0 X s->(s.l=[]->s.mt=none)->pw g.ms ((aM X).ahead s.i) A->s.i<(aF X).length->bd X (s.i+1)<=s.aX->J (s.step g.ms g.u0 X A)
 jg:∀s b told,J s->mV g.ms g.u0 X s->s.l=[]->s.mt.isSome=true->J (s.jg b told)
 drop:∀s f,J s->J (s.DQ f)
structure sB(w0:World)(fb:Nat)(g:FM)(X:ByteArray)(c0:FC)(rY fix:Nat->Prop)(aX:Nat)(R0:List Ev)(J:bZ->Prop)(s:bZ)(c:FC)(au O:Nat->Prop)(v:Value)(aP:List (Ev×Value))(wr:World):Prop where
 at_:jz wr fb g X s c au fix
 cS:eW wr O v X aP
 ap:∀i,O i->w0.heap.size<=i/\¬FO fb c au i
 dD:cF (FO fb c0 rY) (FO fb c au) w0 wr
 rest:R0=aP.map (·.1)++s.rest g.ms g.u0 g.G X
 aX:s.aX=aX
 wn:c.wn=c0.wn
 j:J s
 fx:∀i,fix i\/g.cI i->i<w0.heap.size
theorem sB.new(h:sB w0 fb g X c0 rY fix aX R0 J s c au O v aP wr)(k:aa af wr w'):sB w0 fb g X c0 rY fix aX R0 J s c au O v aP w':=
 ⟨h.at_.new k,h.cS.new k,h.ap,⟨h.dD.kept.bV k (fun i _ hx=>hx.elim),h.dD.ak⟩,h.rest,h.aX,h.wn,h.j,h.fx⟩
theorem sB.step{s':bZ}(h:sB w0 fb g X c0 rY fix aX R0 J s c au O v aP wr)(hs:ZC wr fb g X s s' c au fix w' c' cJ)(hj:J s'):sB w0 fb g X c0 rY fix aX R0 J s' c' cJ O v aP w' where
 at_:=hs.at_
 cS:=h.cS.kept hs.dD.kept (fun i hi=>(h.ap i hi).2)
 ap i hi:=⟨(h.ap i hi).1,fun hf=>(hs.dD.ak i hf).elim (h.ap i hi).2 (fun hn=>by have:=h.cS.lt i hi;omega)⟩
 dD:=h.dD.trans hs.dD
 rest:=by
  have e:s'.rest g.ms g.u0 g.G X=s.rest g.ms g.u0 g.G X:=by unfold bZ.rest;rw[hs.tl.1,hs.tl.2.1]
  rw[e];exact h.rest
 aX:=by rw[hs.tl.2.2.2.1];exact h.aX
 wn:=by rw[hs.tl.2.2.2.2.2];exact h.wn
 j:=hj
 fx:=h.fx
structure OB(w0:World)(fb:Nat)(g:FM)(X:ByteArray)(c0:FC)(rY fix:Nat->Prop)(aX:Nat)(R0:List Ev)(J:bZ->Prop)(s:bZ)(c:FC)(au O:Nat->Prop)(v:Value)(aP:List (Ev×Value))(w2:World)(b:Nat)(told:Int):Prop where
 mem:∃A,fH w2 fb g {c with fr:=aN X b,tl:=told} (s.K X) A s.mt.isSome s.l au fix
 cS:eW w2 O v X aP
 ap:∀i,O i->w0.heap.size<=i/\¬FO fb c au i
 dD:cF (FO fb c0 rY) (FO fb c au) w0 w2
 rest:R0=aP.map (·.1)++(eM (eG g.ms (aM X) g.u0 g.G) (aF X).length (aN X) false b told).1
theorem sB.aob{v3:Value}{gS:List (Ev×Value)}(h:sB w0 fb g X c0 rY fix aX R0 J s c au O v aP wr)(hT:OC wr fb g X s c au fix w1 v2 gS b told)
 (bk:w2.ownsRow 0 46 4 v3 (aP.length+gS.length) (gN X aP++gN X gS))(hg:w1.grownBy w2 v.ownBlock)(iT:v3.ownBlock=v.ownBlock\/v3.ownBlock=some w1.heap.size):
 ∃O',OB w0 fb g X c0 rY fix aX R0 J s c au O' v3 (aP++gS) w2 b told:=by
 obtain⟨A,hM⟩:=h.at_.mem;have aw:∀i,FO fb c au i->i<wr.heap.size:=fun i hi=>hM.1.lt (Or.inl hi)
 have cR:=hT.kept.size;have E1:eW w1 O v X aP:=h.cS.kept hT.kept (fun i hi hx=>(h.ap i hi).2 (Or.inr (Or.inl hx)));obtain⟨E2,K2⟩:=E1.append hT.cS (aa.refl af w1) bk hg iT;have Mv:∀i,v.ownBlock=some i->O i:=h.cS.Ha
 obtain⟨A2,EB⟩:=hT.mem;refine⟨_,⟨A2,EB.kept K2 (fun i hi=>?_)⟩,E2,fun i hi=>?_,⟨?_,?_⟩,?_⟩
 ·have:=h.ap i (Mv i hi);exact⟨this.2,fun hf=>by have:=h.fx i (Or.inl hf);omega,fun hf=>by have:=h.fx i (Or.inr hf);omega⟩
 ·rcases hi with hi|hi|⟨hi,_⟩
  ·exact h.ap i hi
  ·have:=h.dD.kept.size;exact⟨by have:=hi.1;omega,fun hf=>by have:=aw i hf;have:=hi.1;omega⟩
  ·have:=h.dD.kept.size;exact⟨by omega,fun hf=>by have:=aw i hf;omega⟩
 ·have k02:aa (fun i=>i=fb\/v.ownBlock=some i) wr w2:=(hT.kept.mono (S':=fun i=>i=fb\/v.ownBlock=some i) (fun i hi=>Or.inl hi)).bV K2 (fun i _ hi=>Or.inr hi);refine h.dD.kept.bV k02 (fun i hi hx=>?_);rcases hx with hx|hx
  ·exact(h.dD.ak i (Or.inr (Or.inl hx))).elim id (fun hn=>by omega)
  ·have:=(h.ap i (Mv i hx)).1;omega
 ·exact h.dD.ak
 ·rw[h.rest,hT.rest,Ch,Bw]
theorem sB.aod(h:sB w0 fb g X c0 rY fix aX R0 J s c au O v aP wr)(hT:OC wr fb g X s c au fix w1 v2 [] b told):OB w0 fb g X c0 rY fix aX R0 J s c au O v aP w1 b told:=by
 refine⟨hT.mem,h.cS.kept hT.kept (fun i hi hx=>(h.ap i hi).2 (Or.inr (Or.inl hx))),h.ap,⟨h.dD.kept.bV hT.kept (fun i hi hx=>?_),h.dD.ak⟩,?_⟩
 ·exact(h.dD.ak i (Or.inr (Or.inl hx))).elim id (fun hn=>by omega)
 ·rw[h.rest,hT.rest];rfl
theorem eW.one{l:List (Ev×Value)}(h:eW w O v X l):∀u∈gN X l,u.oneCell'=true:=fun u hu=>by
 unfold gN at hu;obtain⟨p,hp,hu⟩:=Er.1 hu;unfold sI at hu;simp only[Cn,Fj,or_false]at hu;rcases hu with rfl|rfl|rfl|rfl
 ·rfl
 ·rfl
 ·rcases h.fE p hp with⟨e,_⟩|⟨gb,e,_⟩
  ·rw[e];rfl
  ·rw[e];rfl
 ·rfl
theorem OB.jg{w3:World}(h:OB w0 fb g X c0 rY fix aX R0 J s c au O v aP w2 b told)(ha:jz w3 fb g X (s.jg b told) c' cJ fix)(hg:cF (fun i=>au i\/i=fb) cJ w2 w3)(oj:c'.kv=c.kv)(rE:s.aX=aX)(Qs:c'.wn=c0.wn)(hj:J (s.jg b told))(hfx:∀i,fix i\/g.cI i->i<w0.heap.size):
 sB w0 fb g X c0 rY fix aX R0 J (s.jg b told) c' cJ O v aP w3 where
 at_:=ha
 cS:=h.cS.kept hg.kept (fun i hi hx=>(h.ap i hi).2 (hx.elim Or.inl (fun e=>Or.inr (Or.inl e))))
 ap i hi:=⟨(h.ap i hi).1,fun hf=>by
  rcases hf with hf|hf|hf
  ·rcases hg.ak i hf with(hx|hx)|hx
   ·exact(h.ap i hi).2 (Or.inl hx)
   ·exact(h.ap i hi).2 (Or.inr (Or.inl hx))
   ·have:=h.cS.lt i hi;omega
  ·exact(h.ap i hi).2 (Or.inr (Or.inl hf))
  ·rw[oj]at hf;exact(h.ap i hi).2 (Or.inr (Or.inr hf))⟩
 dD:=by
  have hs:=h.dD.kept.size;refine⟨h.dD.kept.bV hg.kept (fun i hi hx=>?_),fun i hf=>?_⟩
  ·exact(h.dD.ak i (hx.elim Or.inl (fun e=>Or.inr (Or.inl e)))).elim id (fun hn=>by omega)
  ·rcases hf with hf|hf|hf
   ·rcases hg.ak i hf with hx|hx
    ·exact h.dD.ak i (hx.elim Or.inl (fun e=>Or.inr (Or.inl e)))
    ·exact Or.inr (by omega)
   ·exact h.dD.ak i (Or.inr (Or.inl hf))
   ·rw[oj]at hf;exact h.dD.ak i (Or.inr (Or.inr hf))
 rest:=h.rest
 aX:=rE
 wn:=Qs
 j:=hj
 fx:=hfx
structure wJ(w:World)(fb:Nat)(g:FM)(X:ByteArray)(s:bZ)(n:Nat)(c:FC)(au fix:Nat->Prop)(J:bZ->Prop)(v:Value)(aP:List (Ev×Value))(s':bZ)(c':FC)(cJ O:Nat->Prop)(w':World):Prop where
 at_:jz w' fb g X s' c' cJ fix
 cS:eW w' O v X aP
 ap:∀i,O i->w.heap.size<=i/\¬FO fb c' cJ i
 dD:cF (FO fb c au) (FO fb c' cJ) w w'
 rest:s.rest g.ms g.u0 g.G X=aP.map (·.1)++s'.rest g.ms g.u0 g.G X
 aX:s'.aX=s.aX+n
 fu:s'.l=[]->s'.mt=none
 zV:zW X s'.i s'.l=aN X s'.f
 full:vm (X.extract (bd X s'.i) s'.aX)=false
 wn:c'.wn=c.wn
 j:J s'
theorem WM(ms:List MS)(u0 G:Nat)(X:ByteArray)(s:bZ):(s.rest ms u0 G X).length<=(aF X).length+1:=by
 unfold bZ.rest eM;have:=ahC (eG ms (aM X) u0 G) (aF X).length (aN X) false ((aF X).length+1-s.b) s.b s.told;omega
theorem aoa{pv:Value}(hg:g.Ok)(h:jz w fb g X s c au fix)(pK:s.l=[]->s.mt=none)(hn:s.aX+n<=X.size)(hp:jL w pv (X.extract s.aX (s.aX+n)))(hJ:NS g X J)(hj:J (s.eV n)):
 Calls prog 49 #[.pointer (some ⟨fb,0,none⟩),pv] w fun e w'=>∃v aP s' c' cJ O,e=.returned v/\wJ w fb g X s n c au fix J v aP s' c' cJ O w':=by
 have aS:(X.extract s.aX (s.aX+n)).size=n:=by rw[extract_size X _ _ hn];omega
 have hp:(pv=.slice none 0 0/\n=0)\/∃b off cap,pv=.slice (some ⟨b,off,none⟩) n cap/\∀j,j<n->w.cell? ⟨b,off+j,none⟩=some (.int .u8 ((X.extract s.aX (s.aX+n)).get! j).toNat):=by
  rcases hp with⟨h1,h2⟩|⟨b,off,cap,h1,h2,h3⟩
  ·exact Or.inl ⟨h1,by omega⟩
  ·rw[aS]at h1 h3;exact Or.inr ⟨b,off,cap,h1,h3⟩
 have hXs:=h.ok.sz;have H:=ab h;have N_:=ab pK;have HJ:=ab hJ;have Oa:=ab hj;have c4:w.cell? ⟨fb,4,none⟩=some c.kv:=by obtain⟨A,hM,_⟩:=h.mem;exact hM.ak.cell 4
 have f4:w.frozen? ⟨fb,4,none⟩=false:=by obtain⟨A,hM,_⟩:=h.mem;exact hM.ak.frozen 4
 obtain⟨dL,hKs⟩:w.ownsRow 0 5 1 c.kv (s.K X).size (jQ (s.K X))/\(s.K X).size<=10000000:=by
  obtain⟨A,hM,_⟩:=h.mem;refine⟨hM.kp,?_⟩;obtain⟨b1,b2,b3,b4,b5,b6⟩:=h.ok.yg;omega
 have fi:=ab dL;obtain⟨ka,kn,kc,oj⟩:∃ka kn kc,c.kv=.slice ka kn kc:=by obtain⟨a,b,h⟩:=cA dL;exact⟨a,_,b,h⟩
 obtain⟨i0,cP,di,dj,cY⟩:=Bo Tryz.ach;clear h pK hJ hj dL;go_in;go_upto_region 2 with fail
 go_cut [5] (fun v5 wx=>v5=.slice none 0 0/\∃c1,Hid (jz wx fb g X (s.eV n) c1 au fix)/\Hid (cF (FO fb c au) (FO fb c1 au) w wx)/\Hid (c1.wn=c.wn))
 case first=>
  rw[oj]at c4;rcases hp with⟨rfl,Ma⟩|⟨pb,po,pc,rfl,qB⟩
  ·subst Ma;have ax:=ab (ahX H.out);rw[oj]at ax;have HR:Hid (w.ownsRow 0 5 1 (.slice ka kn kc) (s.K X).size (jQ (s.K X))):=by rw[oj]at fi;exact fi
   clear H N_ HJ Oa aS fi oj;go_wp2_with (at_builtin;refine C3 rfl _ _ 42 rfl 0 5 i0 1 underlying42 cP _ _ _ rfl HR.out rfl ?_);go_meet
   case rel=>exact⟨rfl,c,ax.out.1,ax.out.2,rfl⟩
  ·have HN:Hid (∀j u,(jQ (X.extract s.aX (s.aX+n)))[j]? =some u->w.cell? ((⟨pb,po,none⟩:Addr).add j)=some u):=fun j u UW=>by
    have FE:=(Ah.1 UW).1;rw[To,aS]at FE;rw[Z7 _ (by rw[aS];exact FE)]at UW;rw[Tc,qB j FE];exact UW
   have HR:Hid (w.ownsRow 0 5 1 (.slice ka kn kc) (s.K X).size (jQ (s.K X))):=by rw[oj]at fi;exact fi
   have SH:=(ab fun(w1:World) (v':Value) a b d=>ahW (w1:=w1) (v':=v') H.out hn a b d);rw[oj]at SH;have qX:=ab aS;have abv:(s.K X).size+n<=100000000:=(by omega);clear H N_ HJ Oa fi oj qB aS;go_wp2_with (at_builtin;refine Ao _ rfl _ _ 42 rfl 0 5 i0 _ 1 1 underlying42 cP di dj cY rfl (by decide) _ _ _ rfl HR.out ⟨pb,po,none⟩ n pc (jQ (X.extract s.aX (s.aX+n))) rfl ?c0 ?c1 ?c2 ?c3 ?c4 ?c5 ?_)
   case c0=>rw[To,qX.out,Nat.mul_one]
   case c1=>exact HN.out
   case c2=>
    intro u hu;unfold jQ at hu;obtain⟨x,_,rfl⟩:=Bf.1 hu;rfl
   case c3=>unfold maxLen;omega
   case c4=>omega
   case c5=>exact Am _
   intro v' w7 bG bY dX iT;obtain⟨jd,c',Gn⟩:=cA bG;obtain⟨B1,F1,G1⟩:=SH.out w7 v' bG bY iT;have d4:w7.cell? ⟨fb,4,none⟩=some c.kv:=B1.cell 4;have e4:w7.frozen? ⟨fb,4,none⟩=false:=B1.frozen 4;have F1:=ab F1;have G1:=ab G1;clear SH HN HR bG bY dX iT B1 c4 f4;subst Gn;go_wp2_with fail;go_meet
   case rel=>exact⟨rfl,_,F1,G1,rfl⟩
 case rest=>
  obtain⟨rfl,c1,HF,HG,HW⟩:=hcut;have dr:Hid (sB wc fb g X c1 au fix (s.aX+n) (s.rest g.ms g.u0 g.G X) J (s.eV n) c1 au af (.slice none 0 0) [] wc):=⟨HF.out,eW.nil wc X,fun i hx=>hx.elim,cF.refl _ _,rfl,rfl,rfl,Oa.out,fun i hi=>by obtain⟨A,hM,_⟩:=HF.out.mem;exact hM.lt (Or.inr hi)⟩;have qV:=WM g.ms g.u0 g.G X s;have HRL:=Nm X;have aps:(s.eV n).b<=(aF X).length:=by have:=HF.out.ok.rp.le;omega
  clear HF fi c4 f4 H hp Oa cP di dj cY oj aS hKs;clear i0 ka kn kc;go_wp2_with fail;go_loopg [5] (((aF X).length+1-(s.eV n).b)*((aF X).length+2)+((aF X).length-(s.eV n).i)) (fun kk v wr=>∃(s1:bZ) (c2:FC) (Wp O1:Nat->Prop) (aP:List (Ev×Value)),kk=((aF X).length+1-s1.b)*((aF X).length+2)+((aF X).length-s1.i)/\Hid (sB wc fb g X c1 au fix (s.aX+n) (s.rest g.ms g.u0 g.G X) J s1 c2 Wp O1 v aP wr)/\Hid (s1.l=[]->s1.mt=none))
  case atStart=>exact⟨s.eV n,c1,au,af,[],rfl,dr,N_⟩
  case round=>
   obtain⟨s1,c2,Wp,O1,aP,eT,HI,tB⟩:=hrel;clear dr N_;obtain⟨b1,b2,b3,b4,b5,b6⟩:=HI.out.at_.ok.yg;have oo:c2.pl=(bd X s1.i:Int):=HI.out.at_.fc.pl;have mJ:c2.aB=(bd X s1.f:Int):=HI.out.at_.fc.aB;obtain⟨A1,iK,hA1⟩:=HI.out.at_.mem;have q7:wr.cell? ⟨fb,7,none⟩=some (.int .i64 c2.pl):=iK.ak.cell 7;have F1:=Qz (pl:=c2.pl) iK.ak (yW iK.kp) (by omega) (by omega) (by omega) (by omega)
   have eK:(s1.K X).extract (c2.pl-c2.aB).toNat (s1.K X).size=X.extract (bd X s1.i) s1.aX:=by
    rw[show(c2.pl-c2.aB).toNat=bd X s1.i-bd X s1.f by omega];exact bZ.from_ b1 (by omega) b4
   rw[eK]at F1;have F1:=ab F1;have HT:=ab iK.ma.jK;have iC:(X.extract (bd X s1.i) s1.aX).size<=1000000000000:=by rw[extract_size X _ _ b4];omega
   obtain⟨ao,cv,hv⟩:=cA HI.out.cS.row;subst hv;have xS:=ab eT;clear eK iK hA1 b1 b2 b3 b6 oo mJ eT;go_wp2_with fail;refine(F1.out).mono ?_;rintro e w2 ⟨⟨vb,rfl,sN⟩,n2,rfl⟩;have F2:=ab (ah6 (w:=wr.drewN n2) (sN.new ((aa.refl _ wr).drewN n2)) iC (HT.out.iU ((aa.refl _ wr).drewN n2)));clear F1 sN q7 iC HT;go_wp2_with fail;refine(F2.out).mono ?_;rintro e w3 ⟨rfl,k3⟩;have oI:=ab (HI.out.new (((aa.refl af wr).drewN n2).trans k3));clear F2 k3 HI;obtain⟨fl,oY⟩:∃fl,fl=vm (X.extract (bd X s1.i) s1.aX):=⟨_,rfl⟩
   rw[<-oY]
   cases fl with
   |false=>
    have Yu:=ab oY;clear oY;obtain⟨A3,Ly,hA3⟩:=oI.out.at_.mem;obtain⟨f,f1,f2,f3,f4⟩:=oI.out.at_.ok.rp.zV hg.ft hg.u0 g.G tB.out;have F4:=aa5 Ly;rw[oI.out.at_.fc.pl,show((s1.l.head?.map (·.2)).getD (aN X s1.i))=aN X f from f3]at F4;have F4:=ab F4;have F5:=ab (ahU hg oI.out.at_ tB.out f3 f2);have Ys:=ab f3;clear Ly hA3 f3 f4;go_wp2_with fail;refine(F4.out).mono ?_;rintro e w4 ⟨rfl,rfl⟩;clear F4;go_wp2_with fail;refine(F5.out).mono ?_;rintro e w5 ⟨rfl,c5,hA5,Pj,Mw⟩
    have ax:Hid (wJ w fb g X s n c au fix J (.slice ao aP.length cv) aP (s1.DQ f) c5 Wp O1 w5):=by
     have h:=oI.out;refine⟨hA5,h.cS.kept Pj.kept (fun i hi=>(h.ap i hi).2),fun i hi=>⟨Be HG.out.kept.size (h.ap i hi).1,fun hf=>(Pj.ak i hf).elim (h.ap i hi).2 (fun hx=>by have:=h.cS.lt i hi;omega)⟩,(HG.out.trans h.dD).trans Pj,h.rest,h.aX,tB.out,Ys.out,?_,by rw[Mw,h.wn,HW.out],HJ.out.drop _ _ h.j⟩;exact Yu.out.symm
    clear F5 hA5 Pj Mw oI tB Ys Yu HG HW;go_wp2_with fail;go_ret;exact⟨_,_,_,_,_,_,rfl,ax.out⟩
   |true=>
    obtain⟨og,lr⟩:=aa6 b5 b4 oY.symm;have F4:=ab (ahY hg oI.out.at_ oY.symm);clear oY;go_wp2_with fail;refine(F4.out).mono ?_;rintro e w4 ⟨rfl,s4,c4,GZ,hS⟩
    have PM:J s4:=by
     obtain⟨A,e,hA⟩:=hS.ty;rw[e];exact HJ.out.step s1 A oI.out.j oI.out.at_.ok tB.out hA og lr
    have mW:=ab (oI.out.step hS PM);have Uy:s4.b=s1.b/\s4.i=s1.i+1:=⟨hS.tl.1,hS.tl.2.2.1⟩;clear F4 hS PM oI tB
    have F5:Calls prog 76 #[.pointer (some ⟨fb,0,none⟩)] w4 fun e w'=>e=.returned (.bool (s4.mt.isSome&&s4.l.isEmpty))/\w'=w4:=by
     obtain⟨A4,tQ,_⟩:=mW.out.at_.mem;rw[<-mW.out.at_.fc.md];exact agK tQ
    have F5:=ab F5;obtain⟨ce,UG⟩:∃ce,ce=(s4.mt.isSome&&s4.l.isEmpty):=⟨_,rfl⟩
    rw[<-UG]at F5;have i_:=ab Uy;have Hr:=ab UG;clear UG Uy;go_wp2_with fail;refine(F5.out).mono ?_;rintro e w5 ⟨rfl,rfl⟩;clear F5
    cases ce with
    |false=>
     have afx:Hid (s4.l=[]->s4.mt=none):=fun hl=>by
      have:=Hr.out;rw[hl]at this;simp at this;exact this
     have HM:Hid (((aF X).length+1-s4.b)*((aF X).length+2)+((aF X).length-s4.i)<((aF X).length+1-s1.b)*((aF X).length+2)+((aF X).length-s1.i)):=by
      show _<_
      rw[i_.out.1,i_.out.2];omega
     clear i_ Hr;go_wp2_with fail;go_roundg (((aF X).length+1-s4.b)*((aF X).length+2)+((aF X).length-s4.i))
     case measure=>rw[xS.out];exact HM.out
     case rel=>exact⟨s4,c4,GZ,O1,aP,rfl,mW,afx⟩
    |true=>
     have ju:s4.l=[]/\s4.mt.isSome=true:=by
      have:=Hr.out;simp only[Bool.true_eq,Cm,List.isEmpty_iff]at this;exact⟨this.2,this.1⟩
     have F6:=ab (ahZ hg mW.out.at_ ju.1 ju.2);have J0:=ab ju;obtain⟨ie,mK,Gs,kt,AD⟩:=Bo Tryz.VE;clear ju Hr;go_wp2_with fail;refine(F6.out).mono ?_;rintro e w6 ⟨v6,MW,b6,tp,rfl,hT⟩
     have HM:Hid (((aF X).length+1-(s4.jg b6 tp).b)*((aF X).length+2)+((aF X).length-(s4.jg b6 tp).i)<((aF X).length+1-s1.b)*((aF X).length+2)+((aF X).length-s1.i)):=by
      show _<_
      have h1:=i_.out.1;have h2:=hT.b;have h3:=mW.out.at_.ok.rn;exact akH (n:=(aF X).length) (b:=s1.b) (b':=b6) (i:=s1.i) (by omega) (by omega)
     have cT:aP.length+MW.length<=10000001:=by
      have h1:=congrArg List.length mW.out.rest;have h2:=congrArg List.length hT.rest;simp only[Aj,Co]at h1 h2;omega
     have NY:Hid (∀w7,(∃A,fH w7 fb g {c4 with fr:=aN X b6,tl:=tp} (s4.K X) A s4.mt.isSome s4.l GZ fix)->Calls prog 78 #[.pointer (some ⟨fb,0,none⟩)] w7 fun e pX=>e=.returned (.tuple #[])/\∃GU,jz pX fb g X (s4.jg b6 tp) ({c4 with fr:=aN X b6,tl:=tp}:FC).jg GU fix/\cF (fun i=>GZ i\/i=fb) GU w7 pX):=fun w7 hm=>ahS hg mW.out.at_.fc mW.out.at_.ok hT hm
     have hj6:J (s4.jg b6 tp):=HJ.out.jg s4 b6 tp mW.out.j mW.out.at_.ok J0.out.1 J0.out.2;have wt:=ab (And.intro mW.out.aX (And.intro mW.out.wn (And.intro hj6 mW.out.fx)));clear F6 i_ J0 hj6;rcases hT.cS.cell with⟨rfl,rfl⟩|⟨eg,ec,rfl,UK,jE⟩
     ·have zv:=ab (mW.out.aod hT);have fi:Hid (w6.ownsRow 0 46 4 (.slice ao aP.length cv) aP.length (gN X aP)):=zv.out.cS.row;clear hT mW cT;go_wp2_with (at_builtin;refine C3 rfl _ _ 24 rfl 0 46 ie 4 underlying24 mK _ _ _ rfl fi.out rfl ?_);refine(NY.out w6 zv.out.mem).mono ?_;rintro e w7 ⟨rfl,alK,hA7,hG7⟩;have HI7:=ab (zv.out.jg hA7 hG7 rfl wt.out.1 wt.out.2.1 wt.out.2.2.1 wt.out.2.2.2);clear hA7 hG7 NY zv fi wt;go_wp2_with fail;go_roundg (((aF X).length+1-(s4.jg b6 tp).b)*((aF X).length+2)+((aF X).length-(s4.jg b6 tp).i))
      case measure=>rw[xS.out];exact HM.out
      case rel=>exact⟨s4.jg b6 tp,_,alK,O1,aP,rfl,HI7,fun _=>rfl⟩
     ·have uP:=(ab fun(w7:World) (v7:Value) a b d=>mW.out.aob (v3:=v7) (w2:=w7) hT a b d);have fi:Hid (w6.ownsRow 0 46 4 (.slice ao aP.length cv) aP.length (gN X aP)):=(mW.out.cS.kept hT.kept (fun i hi hx=>(mW.out.ap i hi).2 (Or.inr (Or.inl hx)))).row;have HC:=ab (And.intro jE (And.intro hT.cS.one (O8 X MW)));clear hT mW jE;go_wp2_with (at_builtin;refine Ao _ rfl _ _ 24 rfl 0 46 ie _ 4 56 underlying24 mK Gs kt AD rfl (by decide) _ _ _ rfl fi.out ⟨eg,0,none⟩ MW.length ec (gN X MW) rfl ?c0 ?c1 ?c2 ?c3 ?c4 ?c5 ?_)
      case c0=>exact HC.out.2.2
      case c1=>exact HC.out.1
      case c2=>exact HC.out.2.1
      case c3=>unfold maxLen;omega
      case c4=>omega
      case c5=>exact Am _
      intro v7 w7 kj vD FX vw;obtain⟨O7,vt⟩:=uP.out w7 v7 kj vD vw;have sr:=ab vt;obtain⟨ZO,cv7,xk⟩:=cA kj;clear uP HC fi kj vD FX vw vt;subst xk;go_wp2_with fail;refine(NY.out w7 sr.out.mem).mono ?_;rintro e w8 ⟨rfl,alL,hA8,hG8⟩;have HI8:=ab (sr.out.jg hA8 hG8 rfl wt.out.1 wt.out.2.1 wt.out.2.2.1 wt.out.2.2.2);clear hA8 hG8 NY sr wt;go_wp2_with fail;go_roundg (((aF X).length+1-(s4.jg b6 tp).b)*((aF X).length+2)+((aF X).length-(s4.jg b6 tp).i))
      case measure=>rw[xS.out];exact HM.out
      case rel=>exact⟨s4.jg b6 tp,_,alL,O7,aP++MW,rfl,HI8,fun _=>rfl⟩
end Go.Proofs.YtpdnofhackjfdaaGreatDoor
