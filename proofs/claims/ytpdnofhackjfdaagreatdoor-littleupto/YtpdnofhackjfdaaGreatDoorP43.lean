/- Package flow's t -/
import Derived.Test.YtpdnofhackjfdaaGreatDoorP42
set_option linter.all false
set_option maxRecDepth 100000
set_option maxHeartbeats 8000000
namespace Go.Proofs.YtpdnofhackjfdaaGreatDoor
open Go.Proofs.Tryz
open Go.RowKit Go.Maps
variable {X:ByteArray} {c c' c0:FC} {g:FM} {s:bR} {J:bR->Prop} {told:Int} {aT:List (Ev×Value)} {R0:List Ev} {a b f fb aW n:Nat} {O fix au cF rW:Nat->Prop} {v v2:Value} {w w' w0 w1 w2 wr:World}
def N8(w w':World)(i:Nat):Prop:=w.heap.size<=i/\i<w'.heap.size
theorem nV.evL{x:CX}{N2:Nat}{lx:List (Ev×Nat)}{r:Nat}(h:nV w w0.heap.size v x N2 lx)(hS:ki X x a r)(dR:∀p∈lx,p.1.a<=p.1.b/\p.1.b<=x.n/\p.1.gs.length=N2):
 gj w (N8 w0 w) v X (lx.map fun p=>(v_ a p.1,.slice (some ⟨p.2,0,none⟩) N2 N2)):=by
 have hn:=hS.n;have hl:=hS.le
 have key:∀m:List (Ev×Nat),(∀p∈m,p∈lx)->iF X (m.map fun p=>(v_ a p.1,.slice (some ⟨p.2,0,none⟩) N2 N2))=ER x N2 m:=by
  intro m;induction m with
  |nil=>intro _;rfl
  |cons p m ih=>
   intro hm;have hp:=dR p (hm p (by simp));have uj:=ih (fun q hq=>hm q (Et _ hq));have e1:aK X (a+p.1.a)=x.aY p.1.a:=by rw[hS.aY (by omega)];unfold CX.aY aO aK;simp
   have e2:aK X (a+p.1.b)=x.aY p.1.b:=by rw[hS.aY (by omega)];unfold CX.aY aO aK;simp
   have e3:X.extract (bd X (a+p.1.a)) (bd X (a+p.1.b))=x.s.extract (bd x.s p.1.a) (bd x.s p.1.b):=by
    have q1:=hS.bd (k:=p.1.a) (by omega);have q2:=hS.bd (k:=p.1.b) (by omega);have q3:=fR X (show a<=a+p.1.a by omega);have q4:=fR X (show a<=a+p.1.b by omega);have q5:=fR X (show a+p.1.b<=r by omega);rw[hS.s,Ph X _ _ _ _ (by rw[<-hS.s];omega)];rw[hS.s]at q1 q2;congr 1<;>omega
   show Lz X (v_ a p.1) _++_=zT x N2 p.1 p.2++_
   congr 1
   show [Value.int .i64 (aK X (a+p.1.a)),.int .i64 (aK X (a+p.1.b)),.slice (some ⟨p.2,0,none⟩) N2 N2,.string (X.extract (bd X (a+p.1.a)) (bd X (a+p.1.b)))]=_
   rw[e1,e2,e3];rfl
 refine⟨?_,fun i hi=>dE h.row hi,fun p hp=>?_,fun i hi=>hi.2⟩
 ·rw[key lx (fun _ h=>h),Db];exact CN h.row (Ao _)
 ·obtain⟨q,hq,rfl⟩:=Bg.1 hp;refine Or.inr ⟨q.2,?_,⟨(h.iS q hq).1,(h.iS q hq).2.lt⟩,(h.iS q hq).2⟩;show Value.slice _ N2 N2=Value.slice _ q.1.gs.length q.1.gs.length
  rw[(dR q hq).2.2]
structure ON(w:World)(fb:Nat)(g:FM)(X:ByteArray)(s:bR)(c:FC)(au fix:Nat->Prop)(w':World)(v:Value)(aT:List (Ev×Value))(b:Nat)(told:Int):Prop where
 mem:∃A,fE w' fb g {c with fr:=aK X b,tl:=told} (s.K X) A s.mt.isSome s.l au fix
 cO:gj w' (N8 w w') v X aT
 rest:s.rest g.ms g.u0 g.G X=aT.map (·.1)++(eP (eJ g.ms (aO X) g.u0 g.G) (aF X).length (aK X) false b told).1
 b:s.b<b/\b<=s.r/\s.f<=b
 kept:aa (fun i=>i=fb) w w'
theorem aia(hg:g.Ok)(h:jC w fb g X s c au fix)(hl:s.l=[])(hm:s.mt.isSome=true):
 Calls prog 77 #[.pointer (some ⟨fb,0,none⟩)] w fun e w'=>∃v aT b told,e=.returned v/\ON w fb g X s c au fix w' v aT b told:=by
 obtain⟨A,hM,hA⟩:=h.mem;have hc:=h.fc;have hk:=h.ok;obtain⟨b1,b2,b3,b4,b5,b6⟩:=hk.u5;obtain⟨⟨s0,j⟩,iA⟩:=Option.isSome_iff_exists.1 hm;have hE:=hk.qt;rw[hl,iA]at hE;obtain⟨a,gs,a1,a2,a3,a4,a5,a6,a7⟩:=hE.agL hg.fL hg.u0 g.G;have aP:=hk.sz;have sX:=hk.rn;have U7:=hk.ir
 have I6:s.f<=a:=by
  have:=hk.low.mtc s0 j iA;rw[a4]at this;rcases OZ (by have:=hk.low.le;omega) this with h|h
  ·exact h
  ·have:=hk.low.le;omega
 obtain⟨c1,c2⟩:=hc.mt s0 j iA;rw[a4]at c1;have Mj:bd X a<=bd X j:=fR X a2;have hji:bd X (j+1)<=bd X s.i:=fR X (by omega);have hjr:bd X (j+1)<=bd X s.r:=fR X (by omega);have rG:=(pJ (s:=X) (i:=j) (by omega)).1;have AQ:=fR X I6;have Vm:c.ma=(bd X a:Int):=c1;have hmz:c.mz=(bd X j:Int):=c2;have mT:c.aB=(bd X s.f:Int):=hc.aB;have GG:c.re=(bd X s.r:Int):=hc.re;have jX:c.pl=(bd X s.i:Int):=hc.pl;have mq:mJ (eJ g.ms (aO X) g.u0 g.G) (aF X).length:=xI hg.fL (aO X) hg.u0 g.G;have L7:uW X a (oa c (s.K X) c.ma):=by rw[c1];exact OQ hc I6 (by omega) (by omega) b4
 by_cases Vj:c.ag=true/\32<c.pl-c.mz
 ·have tU:ki X (vO c (s.K X) c.ma c.re true) a s.r:=by
   refine⟨?_,c1,by omega,sX,L7,fun hx=>(by cases hx)⟩;show(s.K X).extract (c.ma-c.aB).toNat (c.re-c.aB).toNat=_
   rw[show(c.ma-c.aB).toNat=bd X a-bd X s.f by omega,show(c.re-c.aB).toNat=bd X s.r-bd X s.f by omega];exact bR.range AQ (by omega) b3 b4
  refine(aoQ hg hM (by omega) (by omega) (by omega) (by omega) (by omega) (by omega) (by omega) (by omega) Vj.1 Vj.2).mono ?_;rintro e w' ⟨v,lx,rfl,hL⟩;generalize VN:vO c (s.K X) c.ma c.re true=x at tU hL;have eh:x.op=true:=by rw[<-VN];rfl
  obtain⟨dB,nL⟩:=a7 s.r U7 sX;obtain⟨LO,qI,_⟩:=alY hg.fL tU eh hg.u0 nL;have hxn:=tU.n;obtain⟨e1,e2,e3,e4⟩:=alV hg.fL tU eh hg.u0 g.G _ 0 s.told (Ab _) (Ao _);have hR:oI g c x=eP (eJ g.ms x g.u0 g.G) x.n x.aY true 0 s.told:=by unfold oI;rw[eh,hc.tl]
  rw[<-hR]at e1 e3 e4;have xh:=e4 _ LO qI (by omega)
  have ml:x.fr (oI g c x).2.1=aK X (a+(oI g c x).2.1):=by
   rw[CX.LJ e3,tU.aY (by omega)];unfold CX.aY aO aK;simp
  have dR:∀p∈lx,p.1.a<=p.1.b/\p.1.b<=x.n/\p.1.gs.length=2*g.G:=fun p hp=>by
   have nN:p.1∈ (oI g c x).1:=by rw[<-hL.eq];exact Bg.2 ⟨p,hp,rfl⟩
   rw[hR]at nN;refine aaJ (P:=fun e=>e.a<=e.b/\e.b<=x.n/\e.gs.length=2*g.G) (xI hg.fL x hg.u0 g.G) (fun i q gq hi hq=>?_) _ _ _ p.1 nN;have:=Hp hg.fL x hg.u0 hi _ _ _ hq;exact⟨this.1,this.2.1,by rw[this.2.2];simp[gK]⟩
  refine⟨v,_,a+(oI g c x).2.1,(oI g c x).2.2,rfl,⟨A,?_⟩,hL.cO.evL tU dR,?_,⟨by omega,by omega,by omega⟩,hL.kept⟩
  ·rw[<-ml];exact hL.mem
  ·unfold bR.rest;rw[TP (a:=a) a1 (by omega) a6,Gg]
   have:(lx.map ((fun p:Ev×Value=>p.1) ∘fun p=>(v_ a p.1,Value.slice (some ⟨p.2,0,none⟩) (2*g.G) (2*g.G))))=(oI g c x).1.map (v_ a):=by
    rw[<-hL.eq,Gg];rfl
   rw[this];exact e1
 ·have vC:j<(aF X).length:=by omega
  obtain⟨r1,r2⟩:=aeh vC b4 (show bd X (j+1)<=s.aW by omega);obtain⟨d,hd⟩:∃d,d=Lib.decodeGo (X.extract (bd X j) s.aW):=⟨_,rfl⟩
  rw[<-hd]at r1 r2;have bC:=pJ vC
  have eK:(s.K X).extract (c.mz-c.aB).toNat (s.K X).size=X.extract (bd X j) s.aW:=by
   rw[show(c.mz-c.aB).toNat=bd X j-bd X s.f by omega];exact bR.from_ (by omega) (by omega) b4
  have eS:(s.K X).extract (c.ma-c.aB).toNat (c.mz-c.aB).toNat=X.extract (bd X a) (bd X j):=by
   rw[show(c.ma-c.aB).toNat=bd X a-bd X s.f by omega,show(c.mz-c.aB).toNat=bd X j-bd X s.f by omega];exact bR.range AQ Mj (by omega) b4
  have tU:ki X (RP c (s.K X) d.1) a j:=by
   refine⟨eS,c1,a2,by omega,L7,fun _ e b=>?_⟩;show e_ e b ((d.1:Nat):Int)=_
   have:(aO X).gM j=(aO X).bl j:=if_pos vC;rw[this,r1]
  have ajE:=Xf hg.fL tU hg.u0 (Ao _) (gK g.G);have aiC:cZ g.ms (RP c (s.K X) d.1) (g.u0:Int) 0 (gK g.G)=some (j-a,gs):=ajE.in_ rfl j gs (by rw[Dt];exact a5) (Ab _)
  have wX:gs.length=2*g.G:=by
   have:=Hp hg.fL (aO X) hg.u0 (show a<=(aO X).n by show a<=(aF X).length;omega) _ _ _ a5;rw[this.2.2];simp[gK]
  refine(aoR (d:=d) hg hM (by omega) (by omega) (by omega) (by omega) (by omega) (by omega) (by omega) Vj (by rw[eK,hd]) (by omega) aiC wX).mono ?_;rintro e w' ⟨v,rfl,hT⟩
  have ml:(c.told d.2).fr=aK X (tp a j):=by
   have:=alA (X:=X) (a:=a) (j:=j) (by omega) vC;rw[<-this];show(if c.ma=c.mz then c.mz+(d.2:Int)else c.mz)=_
   rw[c1,c2,show((bd X (j+1)-bd X j:Nat):Int)=(d.2:Int) by omega]
  have yt:(c.told d.2)={c with fr:=aK X (tp a j),tl:=aK X j}:=by
   rw[<-ml,<-c2];rfl
  have Qq:fE w' fb g {c with fr:=aK X (tp a j),tl:=aK X j} (s.K X) A s.mt.isSome s.l au fix:=by rw[<-yt];exact hT.mem
  have MH:=aoP (told:=s.told) mq a1 a2 (by omega) a5 a6;have ku:c.Jt= !(aK X a==aK X j&&aK X j==s.told):=by unfold FC.Jt;rw[c1,c2,hc.tl]
  rw[<-ku]at MH
  have hb:s.b<tp a j/\tp a j<=s.r/\s.f<=tp a j:=by
   unfold tp;split<;>omega
  cases oz:c.Jt with
  |false=>
   rw[oz]at MH;rw[hT.no oz];exact⟨_,[],tp a j,aK X j,rfl,⟨A,Qq⟩,(gj.nil w' X).mono (fun i hx=>hx.elim) (fun i hx=>hx.2),MH,hb,hT.kept⟩
  |true=>
   rw[oz]at MH;obtain⟨b,gv,rfl,gD,hB,hG⟩:=hT.yes oz;refine⟨_,[(⟨a,j,gs⟩,gv)],tp a j,aK X j,rfl,⟨A,Qq⟩,⟨?_,fun i hi=>?_,fun p hp=>?_,fun i hx=>hx.2⟩,MH,hb,hT.kept⟩
   ·refine⟨by rfl,Or.inr ⟨b,1,_,rfl,Ao _,hB,Ab _,by decide,rfl,?_⟩⟩;show _=iF X [(⟨a,j,gs⟩,gv)]
    rw[eS,c1,c2];rfl
   ·have:b=i:=(by simpa[Value.ownBlock]using hi);rw[<-this];exact⟨gD,hB.lt⟩
   ·simp only[Bo]at hp;rw[hp];rcases hG with h|⟨gb,h1,h2,h3⟩
    ·exact Or.inl h
    ·exact Or.inr ⟨gb,h1,⟨h2,h3.lt⟩,h3⟩
theorem aif{s:ByteArray}(h:jN w v s)(hs:s.size<=1000000000000)(hT:jf w):Calls prog 73 #[v] w fun e w'=>e=.returned (.bool (sJ s))/\aa af w w':=by
 by_cases hz:s.size=0
 ·have hf:sJ s=false:=by unfold sJ EU;simp[hz]
  rw[hf];rcases h with⟨rfl,_⟩|⟨b,off,cap,rfl,h1,h2⟩
  ·clear hT hf;go_in;go_wp2_with fail;go_ret;exact⟨rfl,aa.refl _ _⟩
  ·rw[hz];clear hT hf h2 h1;go_in;go_wp2_with fail;go_ret;exact⟨rfl,aa.refl _ _⟩
 ·rcases h with⟨_,h0⟩|⟨b,off,cap,rfl,h1,h2⟩
  ·exact absurd h0 hz
  unfold sJ;obtain⟨n,hn⟩:∃n,n=s.size:=⟨_,rfl⟩
  have p0:w.cell? ⟨b,off,none⟩=some (.int .u8 ((s.get! 0).toNat:Int)):=h2 0 (by omega);have p1:1<n->w.cell? ⟨b,off+1,none⟩=some (.int .u8 ((s.get! 1).toNat:Int)):=fun h=>h2 1 (by omega)
  have p2:2<n->w.cell? ⟨b,off+2,none⟩=some (.int .u8 ((s.get! 2).toNat:Int)):=fun h=>h2 2 (by omega)
  have l0:=EV s 0;have l1:=EV s 1;have l2:=EV s 2;rw[<-hn]at hz hs⊢;generalize(s.get! 0).toNat=b0 at*;generalize(s.get! 1).toNat=b1 at*;generalize(s.get! 2).toNat=b2 at*;clear hn h2 h1;have nH:=hT.1 b0 l0;have dm:((n:Int)==0)=false:=by simp;omega
  unfold EU;have e0:decide (n≠0)=true:=Cz hz;rw[e0,D9];clear e0;rcases Lib.firstT_cases b0 with hX|hX|hX|hX|hX|hX|hX|hX|hX
  ·rw[hX]at nH⊢;have ia:(0:Int)<=(n:Int):=(by omega);clear hT p1 p2;go_in;go_wp2_with fail;go_ret;exact⟨by simp,aa.refl _ _⟩
  ·rw[hX]at nH⊢;have ia:(1:Int)<=(n:Int):=(by omega);have U4:1<=n:=(by omega);clear hT p1 p2;go_in;go_wp2_with fail;go_ret;exact⟨by simp[U4],aa.refl _ _⟩
  all_goals
   obtain⟨lo,mW⟩:∃lo,lo=Lib.accLo (Lib.firstT b0/16):=⟨_,rfl⟩
   obtain⟨hi,lM⟩:∃hi,hi=Lib.accHi (Lib.firstT b0/16):=⟨_,rfl⟩
   have ha:=hT.2 (Lib.firstT b0/16) (by rw[hX];decide);rw[<-mW,<-lM]at ha⊢;rw[hX]at nH ha⊢;simp only[Nat.reduceMul,Nat.reduceAdd,Nat.reduceMod,Nat.reduceDiv]at ha⊢;obtain⟨a0,a1⟩:=ha;have hn4:n=1\/n=2\/n=3\/4<=n:=(by omega);clear hT hX mW lM;rcases hn4 with rfl|rfl|rfl|h4
   ·clear p1 p2;go_in;go_wp2_with fail;go_big_quiet (fail);go_wp2_with fail;go_ret;exact⟨by simp,((aa.refl af w).alloc _).drewN _⟩
   ·have p1:=p1 (by omega);clear p2;first
    |(go_in
      go_wp2_with fail
      go_ret
      exact⟨by simp,aa.refl _ _⟩)
    |(rcases(show b1<lo\/(¬b1<lo/\hi<b1)\/(¬b1<lo/\¬hi<b1) by omega)with t1|⟨t1,t2⟩|⟨t1,t2⟩
      all_goals
       have A:=aq.new w #[.int .u8 (lo:Int),.int .u8 (hi:Int)] 195;have P1:(w.alloc (.cells #[.int .u8 (lo:Int),.int .u8 (hi:Int)] 195)).cell? ⟨b,off+1,none⟩=some (.int .u8 (b1:Int)):=Ft _ p1;have A0:(w.alloc (.cells #[.int .u8 (lo:Int),.int .u8 (hi:Int)] 195)).cell? ⟨w.heap.size,0,none⟩=some (.int .u8 (lo:Int)):=A.cell 0;have A1:(w.alloc (.cells #[.int .u8 (lo:Int),.int .u8 (hi:Int)] 195)).cell? ⟨w.heap.size,1,none⟩=some (.int .u8 (hi:Int)):=A.cell 1;have KK:Hid (aa af w (w.alloc (.cells #[.int .u8 (lo:Int),.int .u8 (hi:Int)] 195))):=(aa.refl af w).alloc _;clear A;go_in;go_wp2_with fail;generalize(w.alloc (.cells #[.int .u8 (lo:Int),.int .u8 (hi:Int)] 195))=W at*;clear a0 a1 p1 nH p0;go_big_quiet (fail);go_wp2_with fail;go_ret;exact⟨by simp[*],KK.o.drewN _⟩)
   ·have p1:=p1 (by omega);have p2:=p2 (by omega);first
    |(go_in
      go_wp2_with fail
      go_ret
      exact⟨by simp,aa.refl _ _⟩)
    |(rcases(show b1<lo\/(¬b1<lo/\hi<b1)\/((¬b1<lo/\¬hi<b1)/\b2<128)\/((¬b1<lo/\¬hi<b1)/\¬b2<128/\191<b2)\/((¬b1<lo/\¬hi<b1)/\¬b2<128/\¬191<b2) by omega)with t1|⟨t1,t2⟩|⟨⟨t1,t2⟩,t3⟩|⟨⟨t1,t2⟩,t3,t4⟩|⟨⟨t1,t2⟩,t3,t4⟩
      all_goals
       have A:=aq.new w #[.int .u8 (lo:Int),.int .u8 (hi:Int)] 195;have P1:(w.alloc (.cells #[.int .u8 (lo:Int),.int .u8 (hi:Int)] 195)).cell? ⟨b,off+1,none⟩=some (.int .u8 (b1:Int)):=Ft _ p1;have P2:(w.alloc (.cells #[.int .u8 (lo:Int),.int .u8 (hi:Int)] 195)).cell? ⟨b,off+2,none⟩=some (.int .u8 (b2:Int)):=Ft _ p2;have A0:(w.alloc (.cells #[.int .u8 (lo:Int),.int .u8 (hi:Int)] 195)).cell? ⟨w.heap.size,0,none⟩=some (.int .u8 (lo:Int)):=A.cell 0;have A1:(w.alloc (.cells #[.int .u8 (lo:Int),.int .u8 (hi:Int)] 195)).cell? ⟨w.heap.size,1,none⟩=some (.int .u8 (hi:Int)):=A.cell 1;have KK:Hid (aa af w (w.alloc (.cells #[.int .u8 (lo:Int),.int .u8 (hi:Int)] 195))):=(aa.refl af w).alloc _;clear A;go_in;go_wp2_with fail;generalize(w.alloc (.cells #[.int .u8 (lo:Int),.int .u8 (hi:Int)] 195))=W at*;clear a0 a1 p1 p2 nH p0;go_big_quiet (fail);go_wp2_with fail;go_ret;exact⟨by simp[*],KK.o.drewN _⟩)
   ·have ia:(4:Int)<=(n:Int):=(by omega);clear p1 p2;go_in;go_wp2_with fail;go_ret;exact⟨by simp;omega,aa.refl _ _⟩
theorem ah4(hg:g.Ok)(hc:N7 X s c)(hk:mI g.ms g.u0 X s)(hT:ON w fb g X s c au fix w' v aT b told)(k1:∃A,fE w1 fb g {c with fr:=aK X b,tl:=told} (s.K X) A s.mt.isSome s.l au fix):
 Calls prog 78 #[.pointer (some ⟨fb,0,none⟩)] w1 fun e pB=>e=.returned (.tuple #[])/\∃Hi,jC pB fb g X (s.iP b told) ({c with fr:=aK X b,tl:=told}:FC).iP Hi fix/\cH (fun i=>au i\/i=fb) Hi w1 pB:=by
 obtain⟨A,hM⟩:=k1;obtain⟨b1,b2,b3,b4,b5,b6⟩:=hk.u5;obtain⟨iW,mS,FJ⟩:=hT.b;have sX:=hk.rn;have aP:=hk.sz;have wV:=fR X mS;have Me:=fR X FJ;have mT:c.aB=(bd X s.f:Int):=hc.aB;refine(ail hM (show 0<=c.aB by omega) (show c.aB<=aK X b by unfold aK;omega) (show aK X b-c.aB<=_ by unfold aK;omega) (show aK X b<=_ by unfold aK;omega) (by omega)).mono ?_;rintro e pB ⟨rfl,Hi,h1,h2⟩;refine⟨rfl,Hi,⟨⟨_,h1,?_⟩,⟨hc.aB,hc.j7,rfl,hc.re,rfl,rfl,fun a j hm=>(by cases hm),hc.ov⟩,hk.iP told FJ mS⟩,h2⟩;have:=OQ hc FJ (show b<=(aF X).length by omega) (by omega) b4;exact this.ah g.ms
theorem ah7(hg:g.Ok)(h:jC w fb g X s c au fix)(pN:s.l=[]->s.mt=none)(hf:yj X s.i s.l=aK X f)(wW:f<=s.i):
 Calls prog 79 #[.pointer (some ⟨fb,0,none⟩),.int .i64 (aK X f)] w fun e w'=>e=.returned (.tuple #[])/\∃c',jC w' fb g X (s.EI f) c' au fix/\cH (FO fb c au) (FO fb c' au) w w'/\c'.wn=c.wn:=by
 obtain⟨A,hM,hA⟩:=h.mem;have hc:=h.fc;have hk:=h.ok;obtain⟨b1,b2,b3,b4,b5,b6⟩:=hk.u5;have xc:=hk.low.mono;rw[hf]at xc;have aP:=hk.sz;have mT:c.aB=(bd X s.f:Int):=hc.aB;have aiV:=fR X wW
 have pf:s.f<=f:=by
  rcases OZ (by have:=hk.low.le;omega) xc with h|h
  ·exact h
  ·have:=hk.low.le;omega
 have AQ:=fR X pf;by_cases hle:aK X f<=c.aB
 ·have he:f=s.f:=OX (X:=X) (by omega) (by have:=hk.low.le;omega) (by rw[hc.aB]at hle;omega);refine(aho hM hle).mono ?_;rintro e w' ⟨rfl,rfl⟩;refine⟨rfl,c,?_,cH.refl _ _,rfl⟩;rw[he];exact h
 ·have U0:aK X f=(bd X f:Int):=rfl;refine(ahp hM (by omega) (by omega) (by omega) (by omega) (by omega)).mono ?_;rintro e w' ⟨rfl,v',h1,h2,h3⟩
  have eK:(s.K X).extract (aK X f-c.aB).toNat (s.K X).size=(s.EI f).K X:=by
   rw[show(aK X f-c.aB).toNat=bd X f-bd X s.f by omega];exact bR.from_ AQ (by omega) b4
  rw[eK]at h1;have pg:f<=(aF X).length:=by omega
  have hfq:bd X f<=s.aW:=by omega
  refine⟨rfl,_,⟨⟨A,h1,hA⟩,⟨rfl,OQ hc pf pg hfq b4,hc.pl,hc.re,hc.tl,hc.md,hc.mt,hc.ov⟩,hk.EI (wF.wQ hk.qt hf wW pN)⟩,⟨h2.mono (fun i hi=>Or.inr (Or.inl hi)),fun i hi=>?_⟩,rfl⟩;rcases hi with hi|hi|hi
  ·exact Or.inl (Or.inl hi)
  ·exact Or.inl (Or.inr (Or.inl hi))
  ·exact Or.inr (h3 i hi)
theorem akw(h:a<=b)(hb:b+n<=X.size):jT (X.extract a b)++jT (X.extract b (b+n))=jT (X.extract a (b+n)):=by
 unfold jT;rw[<-Ci];congr 1;rw[Cw,Cw,Cw,show b+n-b=n by omega,show b+n-a=(b-a)+n by omega,List.take_add,Fg,show a+(b-a)=b by omega]
theorem ah8{v':Value}(h:jC w fb g X s c au fix)(hn:s.aW+n<=X.size)(bt:w1.ownsRow 0 5 1 v' ((s.K X).size+n) (jT (s.K X)++jT (X.extract s.aW (s.aW+n))))(hg:w.grownBy w1 c.kv.ownBlock)(iV:v'.ownBlock=c.kv.ownBlock\/v'.ownBlock=some w.heap.size):
 aq w1 fb c.cells 124/\jC (w1.setCell ⟨fb,4,none⟩ v') fb g X (s.eG n) {c with kv:=v'} au fix/\cH (FO fb c au) (FO fb {c with kv:=v'} au) w (w1.setCell ⟨fb,4,none⟩ v'):=by
 obtain⟨A,hM,hA⟩:=h.mem;have hc:=h.fc;have hk:=h.ok;obtain⟨b1,b2,b3,b4,b5,b6⟩:=hk.u5;have k1:aa (fun j=>c.kv.ownBlock=some j) w w1:=(aa.refl _ w).eQ hg (fun j hj=>Or.inl hj);have B1:aq w1 fb c.cells 124:=hM.aj.kept k1 (fun hx=>hM.tN hx);have k2:aa (fun i=>i=fb\/c.kv.ownBlock=some i) w (w1.setCell ⟨fb,4,none⟩ v'):=(k1.mono (S':=fun i=>i=fb\/c.kv.ownBlock=some i) (fun i hi=>Or.inr hi)).setCell (p:=⟨fb,4,none⟩) (Or.inl (Or.inl rfl)) _
 have UJ:∀i,v'.ownBlock=some i->c.kv.ownBlock=some i\/w.heap.size<=i:=fun i hi=>by
  rcases iV with e|e
  ·exact Or.inl (by rw[<-e];exact hi)
  ·rw[e]at hi;cases hi;exact Or.inr (Ab _)
 have eK:jT (s.K X)++jT (X.extract s.aW (s.aW+n))=jT ((s.eG n).K X):=akw (by omega) hn
 have eS:(s.K X).size+n=((s.eG n).K X).size:=by
  rw[b6];show _=(X.extract (bd X s.f) (s.aW+n)).size
  rw[extract_size X _ _ hn];omega
 rw[eK,eS]at bt
 have U3:v'.ownBlock≠some fb:=fun e=>by
  rcases UJ fb e with h1|h1
  ·exact hM.tN h1
  ·have:=hM.aj.lt;omega
 refine⟨B1,⟨⟨A,hM.aeA k2 (B1.setCell 4 v') ⟨rfl,rfl,rfl,rfl⟩ ?_ UJ,hA⟩,⟨hc.aB,hc.j7,hc.pl,hc.re,hc.tl,hc.md,hc.mt,hc.ov⟩,hk.eG hn⟩,⟨k2.mono (fun i hi=>hi.elim (fun h=>Or.inr (Or.inl h)) (fun h=>Or.inr (Or.inr h))),fun i hi=>?_⟩⟩
 ·exact bY bt ((aa.refl (fun i=>i=fb) w1).setCell (p:=⟨fb,4,none⟩) (Or.inl rfl) _) (fun b hb hx=>U3 (by rw[<-hx];exact hb))
 ·rcases hi with hi|hi|hi
  ·exact Or.inl (Or.inl hi)
  ·exact Or.inl (Or.inr (Or.inl hi))
  ·exact(UJ i hi).elim (fun h=>Or.inl (Or.inr (Or.inr h))) Or.inr
theorem ah9(h:jC w fb g X s c au fix):
 jC (w.setCell ⟨fb,4,none⟩ c.kv) fb g X s c au fix/\cH (FO fb c au) (FO fb c au) w (w.setCell ⟨fb,4,none⟩ c.kv):=by
 obtain⟨A,hM,hA⟩:=h.mem;have k2:aa (fun i=>i=fb) w (w.setCell ⟨fb,4,none⟩ c.kv):=(aa.refl (fun i=>i=fb) w).setCell (p:=⟨fb,4,none⟩) (Or.inl rfl) _;exact⟨⟨⟨A,hM.put k2 (hM.aj.setCell 4 c.kv) ⟨rfl,rfl,rfl,rfl,rfl⟩,hA⟩,h.fc,h.ok⟩,⟨k2.mono (fun i hi=>Or.inr (Or.inl hi)),fun i hi=>Or.inl hi⟩⟩
theorem ahE(T:Nat->ik)(n:Nat)(b:Nat->Int)(op:Bool):∀(k i:Nat) (told:Int),(ko T n b op k i told).1.length<=k:=by
 intro k;induction k with
 |zero=>intro i told;simp[ko]
 |succ k ih=>
  intro i told;unfold ko;by_cases hn:n<i
  ·rw[if_pos hn];simp
  ·rw[if_neg hn]
   cases e:T i with
   |none=>have:=ih (i+1) told;simp only;omega
   |some v=>
    obtain⟨j,gs⟩:=v;simp only;split
    ·simp
    ·split
     ·split
      ·have:=ih (j+1) told;omega
      ·have:=ih (j+1) (b j);simp only[Av];omega
     ·have:=ih j (b j);simp only[Av];omega
theorem ak1{b' i:Nat}(h:b<b')(hb:b'<=n):(n+1-b')*(n+2)+(n-b')<(n+1-b)*(n+2)+(n-i):=by
 obtain⟨e,he⟩:∃e,n+1-b=(n+1-b')+1+e:=⟨b'-b-1,by omega⟩
 rw[he,Cs,Cs];omega
structure Kd(g:FM)(X:ByteArray)(J:bR->Prop):Prop where
 step:∀s A,J s->mI g.ms g.u0 X s->(s.l=[]->s.mt=none)->pD g.ms ((aO X).ahead s.i) A->s.i<(aF X).length->bd X (s.i+1)<=s.aW->J (s.step g.ms g.u0 X A)
 iP:∀s b told,J s->mI g.ms g.u0 X s->s.l=[]->s.mt.isSome=true->J (s.iP b told)
 drop:∀s f,J s->s.f<=f->J (s.EI f)
structure sw(w0:World)(fb:Nat)(g:FM)(X:ByteArray)(c0:FC)(rW fix:Nat->Prop)(aW:Nat)(R0:List Ev)(J:bR->Prop)(s:bR)(c:FC)(au O:Nat->Prop)(v:Value)(aT:List (Ev×Value))(wr:World):Prop where
 at_:jC wr fb g X s c au fix
 cO:gj wr O v X aT
 ap:∀i,O i->w0.heap.size<=i/\¬FO fb c au i
 dA:cH (FO fb c0 rW) (FO fb c au) w0 wr
 rest:R0=aT.map (·.1)++s.rest g.ms g.u0 g.G X
 aW:s.aW=aW
 wn:c.wn=c0.wn
 j:J s
 fx:∀i,fix i\/g.cM i->i<w0.heap.size
theorem sw.new(h:sw w0 fb g X c0 rW fix aW R0 J s c au O v aT wr)(k:aa af wr w'):sw w0 fb g X c0 rW fix aW R0 J s c au O v aT w':=
 ⟨h.at_.new k,h.cO.new k,h.ap,⟨h.dA.kept.bZ k (fun i _ hx=>hx.elim),h.dA.aj⟩,h.rest,h.aW,h.wn,h.j,h.fx⟩
theorem sw.step{s':bR}(h:sw w0 fb g X c0 rW fix aW R0 J s c au O v aT wr)(hs:ZB wr fb g X s s' c au fix w' c' cF)(hj:J s'):sw w0 fb g X c0 rW fix aW R0 J s' c' cF O v aT w' where
 at_:=hs.at_
 cO:=h.cO.kept hs.dA.kept (fun i hi=>(h.ap i hi).2)
 ap i hi:=⟨(h.ap i hi).1,fun hf=>(hs.dA.aj i hf).elim (h.ap i hi).2 (fun hn=>by have:=h.cO.lt i hi;omega)⟩
 dA:=h.dA.trans hs.dA
 rest:=by
  have e:s'.rest g.ms g.u0 g.G X=s.rest g.ms g.u0 g.G X:=by unfold bR.rest;rw[hs.tl.1,hs.tl.2.1]
  rw[e];exact h.rest
 aW:=by rw[hs.tl.2.2.2.1];exact h.aW
 wn:=by rw[hs.tl.2.2.2.2.2];exact h.wn
 j:=hj
 fx:=h.fx
structure OM(w0:World)(fb:Nat)(g:FM)(X:ByteArray)(c0:FC)(rW fix:Nat->Prop)(aW:Nat)(R0:List Ev)(J:bR->Prop)(s:bR)(c:FC)(au O:Nat->Prop)(v:Value)(aT:List (Ev×Value))(w2:World)(b:Nat)(told:Int):Prop where
 mem:∃A,fE w2 fb g {c with fr:=aK X b,tl:=told} (s.K X) A s.mt.isSome s.l au fix
 cO:gj w2 O v X aT
 ap:∀i,O i->w0.heap.size<=i/\¬FO fb c au i
 dA:cH (FO fb c0 rW) (FO fb c au) w0 w2
 rest:R0=aT.map (·.1)++(eP (eJ g.ms (aO X) g.u0 g.G) (aF X).length (aK X) false b told).1
theorem sw.aoN{v3:Value}{iY:List (Ev×Value)}(h:sw w0 fb g X c0 rW fix aW R0 J s c au O v aT wr)(hT:ON wr fb g X s c au fix w1 v2 iY b told)
 (bt:w2.ownsRow 0 46 4 v3 (aT.length+iY.length) (iF X aT++iF X iY))(hg:w1.grownBy w2 v.ownBlock)(iV:v3.ownBlock=v.ownBlock\/v3.ownBlock=some w1.heap.size):
 ∃O',OM w0 fb g X c0 rW fix aW R0 J s c au O' v3 (aT++iY) w2 b told:=by
 obtain⟨A,hM⟩:=h.at_.mem;have aw:∀i,FO fb c au i->i<wr.heap.size:=fun i hi=>hM.1.lt (Or.inl hi)
 have cU:=hT.kept.size;have E1:gj w1 O v X aT:=h.cO.kept hT.kept (fun i hi hx=>(h.ap i hi).2 (Or.inr (Or.inl hx)));obtain⟨E2,K2⟩:=E1.append hT.cO (aa.refl af w1) bt hg iV;have MJ:∀i,v.ownBlock=some i->O i:=h.cO.CQ
 obtain⟨A2,FD⟩:=hT.mem;refine⟨_,⟨A2,FD.kept K2 (fun i hi=>?_)⟩,E2,fun i hi=>?_,⟨?_,?_⟩,?_⟩
 ·have:=h.ap i (MJ i hi);exact⟨this.2,fun hf=>by have:=h.fx i (Or.inl hf);omega,fun hf=>by have:=h.fx i (Or.inr hf);omega⟩
 ·rcases hi with hi|hi|⟨hi,_⟩
  ·exact h.ap i hi
  ·have:=h.dA.kept.size;exact⟨by have:=hi.1;omega,fun hf=>by have:=aw i hf;have:=hi.1;omega⟩
  ·have:=h.dA.kept.size;exact⟨by omega,fun hf=>by have:=aw i hf;omega⟩
 ·have k02:aa (fun i=>i=fb\/v.ownBlock=some i) wr w2:=(hT.kept.mono (S':=fun i=>i=fb\/v.ownBlock=some i) (fun i hi=>Or.inl hi)).bZ K2 (fun i _ hi=>Or.inr hi);refine h.dA.kept.bZ k02 (fun i hi hx=>?_);rcases hx with hx|hx
  ·exact(h.dA.aj i (Or.inr (Or.inl hx))).elim id (fun hn=>by omega)
  ·have:=(h.ap i (MJ i hx)).1;omega
 ·exact h.dA.aj
 ·rw[h.rest,hT.rest,Ci,Bd]
theorem sw.aoO(h:sw w0 fb g X c0 rW fix aW R0 J s c au O v aT wr)(hT:ON wr fb g X s c au fix w1 v2 [] b told):OM w0 fb g X c0 rW fix aW R0 J s c au O v aT w1 b told:=by
 refine⟨hT.mem,h.cO.kept hT.kept (fun i hi hx=>(h.ap i hi).2 (Or.inr (Or.inl hx))),h.ap,⟨h.dA.kept.bZ hT.kept (fun i hi hx=>?_),h.dA.aj⟩,?_⟩
 ·exact(h.dA.aj i (Or.inr (Or.inl hx))).elim id (fun hn=>by omega)
 ·rw[h.rest,hT.rest];rfl
theorem gj.one{l:List (Ev×Value)}(h:gj w O v X l):∀u∈iF X l,u.oneCell'=true:=fun u hu=>by
 unfold iF at hu;obtain⟨p,hp,hu⟩:=Ez.1 hu;unfold Lz at hu;simp only[Cg,Fr,or_false]at hu;rcases hu with rfl|rfl|rfl|rfl
 ·rfl
 ·rfl
 ·rcases h.iS p hp with⟨e,_⟩|⟨gb,e,_⟩
  ·rw[e];rfl
  ·rw[e];rfl
 ·rfl
theorem OM.iP{w3:World}(h:OM w0 fb g X c0 rW fix aW R0 J s c au O v aT w2 b told)(ha:jC w3 fb g X (s.iP b told) c' cF fix)(hg:cH (fun i=>au i\/i=fb) cF w2 w3)(oB:c'.kv=c.kv)(AO:s.aW=aW)(QH:c'.wn=c0.wn)(hj:J (s.iP b told))(hfx:∀i,fix i\/g.cM i->i<w0.heap.size):
 sw w0 fb g X c0 rW fix aW R0 J (s.iP b told) c' cF O v aT w3 where
 at_:=ha
 cO:=h.cO.kept hg.kept (fun i hi hx=>(h.ap i hi).2 (hx.elim Or.inl (fun e=>Or.inr (Or.inl e))))
 ap i hi:=⟨(h.ap i hi).1,fun hf=>by
  rcases hf with hf|hf|hf
  ·rcases hg.aj i hf with(hx|hx)|hx
   ·exact(h.ap i hi).2 (Or.inl hx)
   ·exact(h.ap i hi).2 (Or.inr (Or.inl hx))
   ·have:=h.cO.lt i hi;omega
  ·exact(h.ap i hi).2 (Or.inr (Or.inl hf))
  ·rw[oB]at hf;exact(h.ap i hi).2 (Or.inr (Or.inr hf))⟩
 dA:=by
  have hs:=h.dA.kept.size;refine⟨h.dA.kept.bZ hg.kept (fun i hi hx=>?_),fun i hf=>?_⟩
  ·exact(h.dA.aj i (hx.elim Or.inl (fun e=>Or.inr (Or.inl e)))).elim id (fun hn=>by omega)
  ·rcases hf with hf|hf|hf
   ·rcases hg.aj i hf with hx|hx
    ·exact h.dA.aj i (hx.elim Or.inl (fun e=>Or.inr (Or.inl e)))
    ·exact Or.inr (by omega)
   ·exact h.dA.aj i (Or.inr (Or.inl hf))
   ·rw[oB]at hf;exact h.dA.aj i (Or.inr (Or.inr hf))
 rest:=h.rest
 aW:=AO
 wn:=QH
 j:=hj
 fx:=hfx
structure wL(w:World)(fb:Nat)(g:FM)(X:ByteArray)(s:bR)(n:Nat)(c:FC)(au fix:Nat->Prop)(J:bR->Prop)(v:Value)(aT:List (Ev×Value))(s':bR)(c':FC)(cF O:Nat->Prop)(w':World):Prop where
 at_:jC w' fb g X s' c' cF fix
 cO:gj w' O v X aT
 ap:∀i,O i->w.heap.size<=i/\¬FO fb c' cF i
 dA:cH (FO fb c au) (FO fb c' cF) w w'
 rest:s.rest g.ms g.u0 g.G X=aT.map (·.1)++s'.rest g.ms g.u0 g.G X
 aW:s'.aW=s.aW+n
 fA:s'.l=[]->s'.mt=none
 wQ:yj X s'.i s'.l=aK X s'.f
 full:sJ (X.extract (bd X s'.i) s'.aW)=false
 wn:c'.wn=c.wn
 j:J s'
theorem aea(ms:List MS)(u0 G:Nat)(X:ByteArray)(s:bR):(s.rest ms u0 G X).length<=(aF X).length+1:=by
 unfold bR.rest eP;have:=ahE (eJ ms (aO X) u0 G) (aF X).length (aK X) false ((aF X).length+1-s.b) s.b s.told;omega
theorem aie{ms:List MS}{u0:Nat}(hk:mI ms u0 X s)(hf:yj X s.i s.l=aK X f)(wW:f<=s.i):s.f<=f:=by
 obtain⟨b1,b2,b3,b4,b5,b6⟩:=hk.u5;have xc:=hk.low.mono;rw[hf]at xc;have aP:=hk.sz;have aiV:=fR X wW;rcases OZ (by have:=hk.low.le;omega) xc with h|h
 ·exact h
 ·have:=hk.low.le;omega
theorem aoM{pv:Value}(hg:g.Ok)(h:jC w fb g X s c au fix)(pN:s.l=[]->s.mt=none)(hn:s.aW+n<=X.size)(hp:jN w pv (X.extract s.aW (s.aW+n)))(hJ:Kd g X J)(hj:J (s.eG n)):
 Calls prog 49 #[.pointer (some ⟨fb,0,none⟩),pv] w fun e w'=>∃v aT s' c' cF O,e=.returned v/\wL w fb g X s n c au fix J v aT s' c' cF O w':=by
 have aP:(X.extract s.aW (s.aW+n)).size=n:=by rw[extract_size X _ _ hn];omega
 have hp:(pv=.slice none 0 0/\n=0)\/∃b off cap,pv=.slice (some ⟨b,off,none⟩) n cap/\∀j,j<n->w.cell? ⟨b,off+j,none⟩=some (.int .u8 ((X.extract s.aW (s.aW+n)).get! j).toNat):=by
  rcases hp with⟨h1,h2⟩|⟨b,off,cap,h1,h2,h3⟩
  ·exact Or.inl ⟨h1,by omega⟩
  ·rw[aP]at h1 h3;exact Or.inr ⟨b,off,cap,h1,h3⟩
 have PI:=h.ok.sz;have H:=ab h;have Oi:=ab pN;have HJ:=ab hJ;have Oj:=ab hj;have c4:w.cell? ⟨fb,4,none⟩=some c.kv:=by obtain⟨A,hM,_⟩:=h.mem;exact hM.aj.cell 4
 have f4:w.frozen? ⟨fb,4,none⟩=false:=by obtain⟨A,hM,_⟩:=h.mem;exact hM.aj.frozen 4
 obtain⟨dO,hKs⟩:w.ownsRow 0 5 1 c.kv (s.K X).size (jT (s.K X))/\(s.K X).size<=10000000:=by
  obtain⟨A,hM,_⟩:=h.mem;refine⟨hM.kp,?_⟩;obtain⟨b1,b2,b3,b4,b5,b6⟩:=h.ok.u5;omega
 have fW:=ab dO;obtain⟨ka,kn,kc,oB⟩:∃ka kn kc,c.kv=.slice ka kn kc:=by obtain⟨a,b,h⟩:=cK dO;exact⟨a,_,b,h⟩
 obtain⟨i0,cS,dm,dp,c_⟩:=Bp Tryz.ace;clear h pN hJ hj dO;go_in;go_upto_region 2 with fail
 go_cut [5] (fun v5 wx=>v5=.slice none 0 0/\∃c1,Hid (jC wx fb g X (s.eG n) c1 au fix)/\Hid (cH (FO fb c au) (FO fb c1 au) w wx)/\Hid (c1.wn=c.wn))
 case first=>
  rw[oB]at c4;rcases hp with⟨rfl,Mp⟩|⟨pb,po,pc,rfl,qD⟩
  ·subst Mp;have ax:=ab (ah9 H.o);rw[oB]at ax;have HR:Hid (w.ownsRow 0 5 1 (.slice ka kn kc) (s.K X).size (jT (s.K X))):=by rw[oB]at fW;exact fW
   clear H Oi HJ Oj aP fW oB;go_wp2_with (at_builtin;refine Dp rfl _ _ 42 rfl 0 5 i0 1 underlying42 cS _ _ _ rfl HR.o rfl ?_);go_meet
   case rel=>exact⟨rfl,c,ax.o.1,ax.o.2,rfl⟩
  ·have HN:Hid (∀j u,(jT (X.extract s.aW (s.aW+n)))[j]? =some u->w.cell? ((⟨pb,po,none⟩:Addr).add j)=some u):=fun j u Va=>by
    have Gt:=(Ag.1 Va).1;rw[Ty,aP]at Gt;rw[Z4 _ (by rw[aP];exact Gt)]at Va;rw[ZK,qD j Gt];exact Va
   have HR:Hid (w.ownsRow 0 5 1 (.slice ka kn kc) (s.K X).size (jT (s.K X))):=by rw[oB]at fW;exact fW
   have SV:=(ab fun(w1:World) (v':Value) a b d=>ah8 (w1:=w1) (v':=v') H.o hn a b d);rw[oB]at SV;have qZ:=ab aP;have abq:(s.K X).size+n<=100000000:=(by omega);clear H Oi HJ Oj fW oB qD aP;go_wp2_with (at_builtin;refine Ap _ rfl _ _ 42 rfl 0 5 i0 _ 1 1 underlying42 cS dm dp c_ rfl (by decide) _ _ _ rfl HR.o ⟨pb,po,none⟩ n pc (jT (X.extract s.aW (s.aW+n))) rfl ?c0 ?c1 ?c2 ?c3 ?c4 ?c5 ?_)
   case c0=>rw[Ty,qZ.o,Nat.mul_one]
   case c1=>exact HN.o
   case c2=>
    intro u hu;unfold jT at hu;obtain⟨x,_,rfl⟩:=Bg.1 hu;rfl
   case c3=>unfold maxLen;omega
   case c4=>omega
   case c5=>exact Ao _
   intro v' w7 bH b_ dS iV;obtain⟨jg,c',BM⟩:=cK bH;obtain⟨B1,F1,G1⟩:=SV.o w7 v' bH b_ iV;have d4:w7.cell? ⟨fb,4,none⟩=some c.kv:=B1.cell 4;have e4:w7.frozen? ⟨fb,4,none⟩=false:=B1.frozen 4;have F1:=ab F1;have G1:=ab G1;clear SV HN HR bH b_ dS iV B1 c4 f4;subst BM;go_wp2_with fail;go_meet
   case rel=>exact⟨rfl,_,F1,G1,rfl⟩
 case rest=>
  obtain⟨rfl,c1,HF,HG,HW⟩:=hcut;have du:Hid (sw wc fb g X c1 au fix (s.aW+n) (s.rest g.ms g.u0 g.G X) J (s.eG n) c1 au af (.slice none 0 0) [] wc):=⟨HF.o,gj.nil wc X,fun i hx=>hx.elim,cH.refl _ _,rfl,rfl,rfl,Oj.o,fun i hi=>by obtain⟨A,hM,_⟩:=HF.o.mem;exact hM.lt (Or.inr hi)⟩;have qY:=aea g.ms g.u0 g.G X s;have HRL:=Rw X;have apZ:(s.eG n).b<=(aF X).length:=by have:=HF.o.ok.qt.le;omega
  clear HF fW c4 f4 H hp Oj cS dm dp c_ oB aP hKs;clear i0 ka kn kc;go_wp2_with fail;go_loopg [5] (((aF X).length+1-(s.eG n).b)*((aF X).length+2)+((aF X).length-(s.eG n).i)) (fun kk v wr=>∃(s1:bR) (c2:FC) (WG O1:Nat->Prop) (aT:List (Ev×Value)),kk=((aF X).length+1-s1.b)*((aF X).length+2)+((aF X).length-s1.i)/\Hid (sw wc fb g X c1 au fix (s.aW+n) (s.rest g.ms g.u0 g.G X) J s1 c2 WG O1 v aT wr)/\Hid (s1.l=[]->s1.mt=none))
  case atStart=>exact⟨s.eG n,c1,au,af,[],rfl,du,Oi⟩
  case round=>
   obtain⟨s1,c2,WG,O1,aT,eZ,HI,tF⟩:=hrel;clear du Oi;obtain⟨b1,b2,b3,b4,b5,b6⟩:=HI.o.at_.ok.u5;have jX:c2.pl=(bd X s1.i:Int):=HI.o.at_.fc.pl;have mT:c2.aB=(bd X s1.f:Int):=HI.o.at_.fc.aB;obtain⟨A1,iG,hA1⟩:=HI.o.at_.mem;have q7:wr.cell? ⟨fb,7,none⟩=some (.int .i64 c2.pl):=iG.aj.cell 7;have F1:=QN (pl:=c2.pl) iG.aj (yW iG.kp) (by omega) (by omega) (by omega) (by omega)
   have eK:(s1.K X).extract (c2.pl-c2.aB).toNat (s1.K X).size=X.extract (bd X s1.i) s1.aW:=by
    rw[show(c2.pl-c2.aB).toNat=bd X s1.i-bd X s1.f by omega];exact bR.from_ b1 (by omega) b4
   rw[eK]at F1;have F1:=ab F1;have HT:=ab iG.ma.j8;have iz:(X.extract (bd X s1.i) s1.aW).size<=1000000000000:=by rw[extract_size X _ _ b4];omega
   obtain⟨ao,cv,hv⟩:=cK HI.o.cO.row;subst hv;have xR:=ab eZ;clear eK iG hA1 b1 b2 b3 b6 jX mT eZ;go_wp2_with fail;refine(F1.o).mono ?_;rintro e w2 ⟨⟨vb,rfl,sN⟩,n2,rfl⟩;have F2:=ab (aif (w:=wr.drewN n2) (sN.new ((aa.refl _ wr).drewN n2)) iz (HT.o.jZ ((aa.refl _ wr).drewN n2)));clear F1 sN q7 iz HT;go_wp2_with fail;refine(F2.o).mono ?_;rintro e w3 ⟨rfl,k3⟩;have qf:=ab (HI.o.new (((aa.refl af wr).drewN n2).trans k3));clear F2 k3 HI;obtain⟨fl,pg⟩:∃fl,fl=sJ (X.extract (bd X s1.i) s1.aW):=⟨_,rfl⟩
   rw[<-pg]
   cases fl with
   |false=>
    have Yx:=ab pg;clear pg;obtain⟨A3,LQ,hA3⟩:=qf.o.at_.mem;obtain⟨f,f1,f2,f3,f4⟩:=qf.o.at_.ok.qt.wQ hg.fL hg.u0 g.G tF.o;have F4:=aaY LQ;rw[qf.o.at_.fc.pl,show((s1.l.head?.map (·.2)).getD (aK X s1.i))=aK X f from f3]at F4;have F4:=ab F4;have F5:=ab (ah7 hg qf.o.at_ tF.o f3 f2);have Yu:=ab f3;have DE:=ab (aie qf.o.at_.ok f3 f2);clear LQ hA3 f3 f4;go_wp2_with fail;refine(F4.o).mono ?_;rintro e w4 ⟨rfl,rfl⟩;clear F4;go_wp2_with fail;refine(F5.o).mono ?_;rintro e w5 ⟨rfl,c5,hA5,Pt,MK⟩
    have ax:Hid (wL w fb g X s n c au fix J (.slice ao aT.length cv) aT (s1.EI f) c5 WG O1 w5):=by
     have h:=qf.o;refine⟨hA5,h.cO.kept Pt.kept (fun i hi=>(h.ap i hi).2),fun i hi=>⟨Bb HG.o.kept.size (h.ap i hi).1,fun hf=>(Pt.aj i hf).elim (h.ap i hi).2 (fun hx=>by have:=h.cO.lt i hi;omega)⟩,(HG.o.trans h.dA).trans Pt,h.rest,h.aW,tF.o,Yu.o,?_,by rw[MK,h.wn,HW.o],HJ.o.drop _ _ h.j DE.o⟩;exact Yx.o.symm
    clear F5 hA5 Pt MK qf tF Yu Yx HG HW;go_wp2_with fail;go_ret;exact⟨_,_,_,_,_,_,rfl,ax.o⟩
   |true=>
    obtain⟨oy,lu⟩:=aaZ b5 b4 pg.symm;have F4:=ab (ah_ hg qf.o.at_ pg.symm);clear pg;go_wp2_with fail;refine(F4.o).mono ?_;rintro e w4 ⟨rfl,s4,c4,Hk,hS⟩
    have Qc:J s4:=by
     obtain⟨A,e,hA⟩:=hS.ty;rw[e];exact HJ.o.step s1 A qf.o.j qf.o.at_.ok tF.o hA oy lu
    have ni:=ab (qf.o.step hS Qc);have UL:s4.b=s1.b/\s4.i=s1.i+1:=⟨hS.tl.1,hS.tl.2.2.1⟩;clear F4 hS Qc qf tF
    have F5:Calls prog 76 #[.pointer (some ⟨fb,0,none⟩)] w4 fun e w'=>e=.returned (.bool (s4.mt.isSome&&s4.l.isEmpty))/\w'=w4:=by
     obtain⟨A4,tT,_⟩:=ni.o.at_.mem;rw[<-ni.o.at_.fc.md];exact agM tT
    have F5:=ab F5;obtain⟨ce,UU⟩:∃ce,ce=(s4.mt.isSome&&s4.l.isEmpty):=⟨_,rfl⟩
    rw[<-UU]at F5;have jP:=ab UL;have Ib:=ab UU;clear UU UL;go_wp2_with fail;refine(F5.o).mono ?_;rintro e w5 ⟨rfl,rfl⟩;clear F5
    cases ce with
    |false=>
     have afs:Hid (s4.l=[]->s4.mt=none):=fun hl=>by
      have:=Ib.o;rw[hl]at this;simp at this;exact this
     have HM:Hid (((aF X).length+1-s4.b)*((aF X).length+2)+((aF X).length-s4.i)<((aF X).length+1-s1.b)*((aF X).length+2)+((aF X).length-s1.i)):=by
      show _<_
      rw[jP.o.1,jP.o.2];omega
     clear jP Ib;go_wp2_with fail;go_roundg (((aF X).length+1-s4.b)*((aF X).length+2)+((aF X).length-s4.i))
     case measure=>rw[xR.o];exact HM.o
     case rel=>exact⟨s4,c4,Hk,O1,aT,rfl,ni,afs⟩
    |true=>
     have jx:s4.l=[]/\s4.mt.isSome=true:=by
      have:=Ib.o;simp only[Bool.true_eq,Co,List.isEmpty_iff]at this;exact⟨this.2,this.1⟩
     have F6:=ab (aia hg ni.o.at_ jx.1 jx.2);have Kg:=ab jx;obtain⟨ie,oz,Jq,kV,FP⟩:=Bp Tryz.VV;clear jx Ib;go_wp2_with fail;refine(F6.o).mono ?_;rintro e w6 ⟨v6,Nb,b6,tz,rfl,hT⟩
     have HM:Hid (((aF X).length+1-(s4.iP b6 tz).b)*((aF X).length+2)+((aF X).length-(s4.iP b6 tz).i)<((aF X).length+1-s1.b)*((aF X).length+2)+((aF X).length-s1.i)):=by
      show _<_
      have h1:=jP.o.1;have h2:=hT.b;have h3:=ni.o.at_.ok.rn;exact ak1 (n:=(aF X).length) (b:=s1.b) (b':=b6) (i:=s1.i) (by omega) (by omega)
     have cT:aT.length+Nb.length<=10000001:=by
      have h1:=congrArg List.length ni.o.rest;have h2:=congrArg List.length hT.rest;simp only[Aj,Db]at h1 h2;omega
     have Ob:Hid (∀w7,(∃A,fE w7 fb g {c4 with fr:=aK X b6,tl:=tz} (s4.K X) A s4.mt.isSome s4.l Hk fix)->Calls prog 78 #[.pointer (some ⟨fb,0,none⟩)] w7 fun e pB=>e=.returned (.tuple #[])/\∃Hi,jC pB fb g X (s4.iP b6 tz) ({c4 with fr:=aK X b6,tl:=tz}:FC).iP Hi fix/\cH (fun i=>Hk i\/i=fb) Hi w7 pB):=fun w7 hm=>ah4 hg ni.o.at_.fc ni.o.at_.ok hT hm
     have hj6:J (s4.iP b6 tz):=HJ.o.iP s4 b6 tz ni.o.j ni.o.at_.ok Kg.o.1 Kg.o.2;have wu:=ab (And.intro ni.o.aW (And.intro ni.o.wn (And.intro hj6 ni.o.fx)));clear F6 jP Kg hj6;rcases hT.cO.cell with⟨rfl,rfl⟩|⟨eg,ec,rfl,PX,jj⟩
     ·have zx:=ab (ni.o.aoO hT);have fW:Hid (w6.ownsRow 0 46 4 (.slice ao aT.length cv) aT.length (iF X aT)):=zx.o.cO.row;clear hT ni cT;go_wp2_with (at_builtin;refine Dp rfl _ _ 24 rfl 0 46 ie 4 underlying24 oz _ _ _ rfl fW.o rfl ?_);refine(Ob.o w6 zx.o.mem).mono ?_;rintro e w7 ⟨rfl,al9,hA7,hG7⟩;have HI7:=ab (zx.o.iP hA7 hG7 rfl wu.o.1 wu.o.2.1 wu.o.2.2.1 wu.o.2.2.2);clear hA7 hG7 Ob zx fW wu;go_wp2_with fail;go_roundg (((aF X).length+1-(s4.iP b6 tz).b)*((aF X).length+2)+((aF X).length-(s4.iP b6 tz).i))
      case measure=>rw[xR.o];exact HM.o
      case rel=>exact⟨s4.iP b6 tz,_,al9,O1,aT,rfl,HI7,fun _=>rfl⟩
     ·have zz:=(ab fun(w7:World) (v7:Value) a b d=>ni.o.aoN (v3:=v7) (w2:=w7) hT a b d);have fW:Hid (w6.ownsRow 0 46 4 (.slice ao aT.length cv) aT.length (iF X aT)):=(ni.o.cO.kept hT.kept (fun i hi hx=>(ni.o.ap i hi).2 (Or.inr (Or.inl hx)))).row;have HC:=ab (And.intro jj (And.intro hT.cO.one (TQ X Nb)));clear hT ni jj;go_wp2_with (at_builtin;refine Ap _ rfl _ _ 24 rfl 0 46 ie _ 4 56 underlying24 oz Jq kV FP rfl (by decide) _ _ _ rfl fW.o ⟨eg,0,none⟩ Nb.length ec (iF X Nb) rfl ?c0 ?c1 ?c2 ?c3 ?c4 ?c5 ?_)
      case c0=>exact HC.o.2.2
      case c1=>exact HC.o.1
      case c2=>exact HC.o.2.1
      case c3=>unfold maxLen;omega
      case c4=>omega
      case c5=>exact Ao _
      intro v7 w7 mr AS Mr AG;obtain⟨O7,LY⟩:=zz.o w7 v7 mr AS AG;have zy:=ab LY;obtain⟨ao7,cv7,BP⟩:=cK mr;clear zz HC fW mr AS Mr AG LY;subst BP;go_wp2_with fail;refine(Ob.o w7 zy.o.mem).mono ?_;rintro e w8 ⟨rfl,al_,hA8,hG8⟩;have HI8:=ab (zy.o.iP hA8 hG8 rfl wu.o.1 wu.o.2.1 wu.o.2.2.1 wu.o.2.2.2);clear hA8 hG8 Ob zy wu;go_wp2_with fail;go_roundg (((aF X).length+1-(s4.iP b6 tz).b)*((aF X).length+2)+((aF X).length-(s4.iP b6 tz).i))
      case measure=>rw[xR.o];exact HM.o
      case rel=>exact⟨s4.iP b6 tz,_,al_,O7,aT++Nb,rfl,HI8,fun _=>rfl⟩
