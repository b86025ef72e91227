/- Package marks -/
import Derived.Test.YtpdnofhackjfdaaGreatDoorP34
set_option linter.all false
set_option maxRecDepth 100000
set_option maxHeartbeats 8000000
namespace Go.Proofs.YtpdnofhackjfdaaGreatDoor
open Go.Proofs.Tryz
open Go.RowKit Go.Maps
variable {c c2 d:Array Int} {bh:Int} {m:MC} {s:dC} {a b cap g i j n off sz:Nat} {P:Program} {t:TG} {w w1:World}
theorem aog(w:World)(t ty e:TypeId)(i:TypeInfo)(z:Value)(size bytes:Nat)(ht:P.underlying t=some (.slice e))(hi:P.info? e=some i)(hz:i.zero=some z)
 (xQ:i.size=size)(CE:i.bytes=bytes)(DC:z.cells.size=size)(aW:0<size)
 (ao:Option Addr)(n:Nat)(tJ:List Value)(nc:tJ.length=n*size)(h0:ao=none->n=0)(holds:∀b,ao=some b->∀j u,tJ[j]? =some u->w.cell? (b.add j)=some u)
 (a:Addr)(m c:Nat)(news:List Value)(hl:news.length=m*size)(JS:∀j u,news[j]? =some u->w.cell? (a.add j)=some u)(h1:∀u∈news,u.oneCell'=true)
 (hm:0<m)(BR:n+m<=maxLen)(CF:(n+m)*bytes<=140737488355328):
 ∃v' w',(Builtin.append_ #[t,t] ty #[.slice ao n n,.slice (some a) m c]).run P w=.ok v' w'/\w'.ownsRow w.heap.size e size v' (n+m) (tJ++news)/\w.grownBy w' none:=by
 cases ao with
 |none=>
  have hn:=h0 rfl;subst hn;have ho:tJ=[]:=Aw.1 (by rw[nc,Eo]);subst ho;obtain⟨v',w',hr,h2,h3,h4,h5⟩:=run_append_own_at (P:=P) w w.heap.size t ty e i z size bytes ht hi hz xQ CE DC aW (.slice none 0 0) 0 [] (A8 _ _ _ _) a m c news hl JS h1 BR CF (Ab _);exact⟨v',w',hr,h2,h3⟩
 |some b=>exact run_append_arg_grows w t ty e i z size bytes ht hi hz xQ CE DC aW b n n tJ nc (holds b rfl) a m c news hl JS (by omega) BR CF
theorem afB{ops:Array Oper}{o:Oper}{a:Act}{K:Act->World->Prop}{Q:Exit->Act->World->Prop}{E:Prop}
 (hg:o.guard=none)(s x:Operand)(t:TypeId)(eG:o.op=.call {callee:=.builtin .append,args:=#[s,x],argTypes:=#[t,t]})
 (e:TypeId)(i:TypeInfo)(z:Value)(size bytes:Nat)(ht:P.underlying t=some (.slice e))(hi:P.info? e=some i)(hz:i.zero=some z)(xQ:i.size=size)(CE:i.bytes=bytes)(DC:z.cells.size=size)(aW:0<size)
 (ao:Option Addr)(n:Nat)(tJ:List Value)(hs:a.eval s=.slice ao n n)(nc:tJ.length=n*size)(h0:ao=none->n=0)(holds:∀b,ao=some b->∀j u,tJ[j]? =some u->w.cell? (b.add j)=some u)
 (ad:Addr)(m c:Nat)(news:List Value)(hx:a.eval x=.slice (some ad) m c)(hl:news.length=m*size)(JS:∀j u,news[j]? =some u->w.cell? (ad.add j)=some u)(h1:∀u∈news,u.oneCell'=true)
 (hm:0<m)(BR:n+m<=maxLen)(CF:(n+m)*bytes<=140737488355328)
 (hK:∀v' w',w'.ownsRow w.heap.size e size v' (n+m) (tJ++news)->w.grownBy w' none->K (a.put o.dst v') w'):
 if Region.wanted o (yielded ops a.tmps)=true then Oper.wp P o a w K Q else E:=by
 have hw:Region.wanted o (yielded ops a.tmps)=true:=by simp[Region.wanted,hg]
 rw[if_pos hw];obtain⟨v',w',hr,h2,h3⟩:=aog (P:=P) w t o.type e i z size bytes ht hi hz xQ CE DC aW ao n tJ nc h0 holds ad m c news hl JS h1 hm BR CF;unfold Oper.wp;simp[execOp,eG,resolve,invoke,builtin,hs,hx,hr,Result.andThen];exact hK _ _ h2 h3
structure KP(g:FG)(t:TG)(eb mp:Nat):Prop where
 em:eb≠mp
 ef:eb≠g.fb/\eb≠g.sb/\eb≠g.bb
 mf:mp≠g.fb/\mp≠g.sb/\mp≠g.bb
 mm:¬g.cP mp
 eB:¬t.B eb
 mB:¬t.B mp
 fB:¬t.B g.fb/\¬t.B g.sb/\¬t.B g.bb
structure Qd(w:World)(g:FG)(m:MC)(t:TG)(mp:Nat)(mo bh:Int)(s:dC)(e:Ending)(w':World):Prop where
 ex:∃(q:Nat) (t':TG) (D':DataW Unit),e=.returned (BT q 0)/\t.le t'/\iV w' m t'/\lU w' mp mo t'.T D'/\qH w' m t' s (ju m.cl bh) q/\∀i,t'.B i->t.B i\/w.heap.size<=i
 fO:jh w' g
 kept:aa (fun i=>i=mp\/i=g.fb\/i=g.sb\/i=g.bb) w w'
def Uz(p:Nat)(mt:Bool)(W:World):Prop:=W.cell? (GB p 2)=some (.bool mt)/\0<=W.heap.size
def Uy(eb p:Nat)(fb:Nat)(ah:Int)(W:World):Prop:=W.cell? (GB eb 1)=some (BT fb 0)/\W.cell? (GB p 1)=some (.int .i32 ah)
def Ux(eb:Nat)(st:Int)(W:World):Prop:=W.cell? (GB eb 0)=some (GW st)/\0<=W.heap.size
theorem ap8{g:FG}{eb mp p mn R9:Nat}{mo:Int}{UQ nw:Value}{R8:Option Addr}{D:DataW Unit}(hg:g.Ok)(Hp:m.ms=g.ms/\m.st=g.st)(bD:0<=g.st/\g.st<g.ms.length)(hb:0<=bh/\bh<=1114111)
 (hE:au w eb (p_ g.st (BT g.fb 0) (pz g.ms) UQ mo mp nw (.slice R8 mn R9)) 159)(dP:mn=jv s.aX+(if s.mt then 0 else 1))(fD:2<=mo/\mo<=1000000000)(hmp:mp<w.heap.size)
 (ML:lU w mp mo t.T D)(qQ:iV w m t)(hs:t.T p=some s)(hI:jh w g)(hA:KP g t eb mp):
 Calls prog 237 #[BT eb 0,BT p 0,.int .i32 bh] w (Qd w g m t mp mo bh s):=by
 obtain⟨cs,as_,wR,e1,⟨e2,e3⟩,_⟩:=(qQ.st p s hs).ex;have CB:=qQ.ok p s hs;rw[Hp.1]at CB;have c0:w.cell? (GB p 0)=some (.slice as_ s.aX.length cs):=e1.cell 0;have c1:w.cell? (GB p 1)=some (.int .i32 s.ah):=e1.cell 1;have c2:w.cell? (GB p 2)=some (.bool s.mt):=e1.cell 2;have d7:w.cell? (GB eb 7)=some (.slice R8 mn R9):=hE.cell 7;have oH:=e1.lt;have ajv:=hE.lt
 have y_:s.aX.length<=cs:=by
  rcases e2.2 with⟨h1,h2⟩|⟨_,cap,_,h1,_,_,h4,_⟩
  ·simp only[A9]at h1;omega
  ·simp only[A9]at h1;omega
 have h0n:as_=none->s.aX.length=0:=fun h=>by
  rcases e2.2 with⟨h1,h2⟩|⟨_,cap,_,h1,_⟩
  ·exact h2
  ·rw[h]at h1;cases h1
 have ace:as_=none->cs=0:=fun h=>by
  rcases e2.2 with⟨h1,h2⟩|⟨_,cap,_,h1,_⟩
  ·simp only[A9]at h1;exact h1.2.2
  ·rw[h]at h1;cases h1
 have Ns:(eU s.aX).length=s.aX.length*2:=II _;have aj7:=trivial;obtain⟨tb,a2,Qs,e4,hT,kD⟩:=pX.of e2;obtain⟨eA,eC⟩:as_=a2/\cs=Qs:=by simpa using e4
 subst eA eC;clear e4;have dc:s.aX.length<=4001:=by have:=CB.1.bN;have:=hg.bN;omega
 have HE:=ab hE;have nA:=ab CB;have HT:=ab hT;have ES:=ab kD;have yx:=ab e3;have rK:=ab qQ;have xd:=ab ML;have sL:=ab hs;have HI:=ab hI;have HG:=ab hg;have HA:=ab hA;have lQ:=ab e1;have mr:=ab Hp;clear hE CB hT kD e3 qQ ML hs hI hg hA e1 e2 Hp;go_in;go_upto_if 22 with fail
 go_cut [7] (fun v7 wx=>∃(lb lc:Nat) (la:Option Addr),v7=.slice la (dF g.st s).length lc/\Hid (pX wx lb la (dF g.st s))/\Hid (dF g.st s≠ []->¬(lb=g.fb\/lb=g.sb\/lb=g.bb))/\Hid (aa ai w wx))
 case first=>
  cases iQ:s.mt with
  |true=>
   have hL:dF g.st s=s.aX:=by unfold dF;rw[if_pos iQ]
   have HL:=ab hL
   have H2:Hid (s.aX≠ []->¬(tb=g.fb\/tb=g.sb\/tb=g.bb)):=fun aB hx=>by
    have hB:=yx.o tb (ES.o aB);have hf:=HA.o.fB;rcases hx with hx|hx|hx<;>rw[hx]at hB
    ·exact hf.1 hB
    ·exact hf.2.1 hB
    ·exact hf.2.2 hB
   have HK:Hid (aa ai w w):=aa.refl _ _;clear hL HE nA ES yx rK xd sL HI HG HA lQ mr;go_wp2_with fail;go_meet
   case rel=>exact⟨tb,cs,as_,by rw[HL.o],by rw[HL.o];exact HT,by rw[HL.o];exact H2,HK⟩
  |false=>
   have hL:dF g.st s=s.aX++[(g.st,(jv s.aX:Int))]:=by unfold dF;rw[if_neg (by rw[iQ];simp)]
   have HL:=ab hL;have ajX:(mn:Int)-1=(jv s.aX:Int):=by rw[dP,iQ];simp
   obtain⟨nk,Nn⟩:∃nk:Int,nk=(jv s.aX:Int):=⟨_,rfl⟩
   rw[<-Nn]at ajX;have Z3:=ab Nn;have aqX:0<=nk/\nk<=5000:=by have:=nA.o.1.U6;omega
   have arl:wrap64 nk=nk:=by simp only[wrap64];omega
   have S4:Hid (∀W,aa ai w W->Ux eb g.st W):=fun W k=>⟨(HE.o.kept k (fun hx=>hx)).cell 0,Al _⟩
   have PQ:Hid (∀W,aa ai w W->∀b,as_=some b->∀j u,(eU s.aX)[j]? =some u->W.cell? (b.add j)=some u):=fun W k b hb j u hu=>by
    have aB:s.aX≠ []:=by intro e;rw[e]at hu;simp[eU]at hu
    obtain⟨q1,q2⟩:=HT.o.at_ aB;rw[q1]at hb
    cases hb;rw[LX]
    have hj:=(Ai.1 hu).1;rw[II]at hj;have fC:=HT.o.cells (j/2) (by omega);have rZ:=Td (l:=s.aX) (k:=j/2) (by omega);refine(k.cell (p:=(GB tb j)) q2 (fun hx=>hx)).trans ?_;rcases Er j with h2|h2
    ·rw[show j/2*2=j by omega]at fC rZ;rw[fC.1,<-rZ.1,hu]
    ·rw[show j/2*2+1=j by omega]at fC rZ;rw[fC.2,<-rZ.2,hu]
   have O8:Hid (∀(W w7:World) (v':Value),aa ai w W->w7.ownsRow W.heap.size 256 2 v' (s.aX.length+1) (eU s.aX++[GW g.st,GW nk])->W.grownBy w7 none->∃(lb lc:Nat) (la:Option Addr),v'=.slice la (dF g.st s).length lc/\Hid (pX w7 lb la (dF g.st s))/\Hid (dF g.st s≠ []->¬(lb=g.fb\/lb=g.sb\/lb=g.bb))/\Hid (aa ai w w7)):=fun W w7 v' k ho dM=>by
    have k7:aa ai w w7:=k.eP dM (fun j hj=>by cases hj)
    have CP:w7.ownsRow W.heap.size 256 2 v' (dF g.st s).length (eU (dF g.st s)):=by
     rw[HL.o,Aj,YT,<-Z3.o];exact ho
    obtain⟨lb,la,lc,q1,q2,q3⟩:=pX.of CP;refine⟨lb,lc,la,q1,q2,fun aB hx=>?_,k7⟩;have h1:=(dw CP (q3 aB)).1;have h2:=k.size;obtain⟨_,_,_,s1,b1,hB,⟨hS,_⟩,⟨BU,_⟩⟩:=HI.o.ex;have f1:=hB.lt;have f2:=hS.lt;have f3:=BU.lt;omega
   obtain⟨i0,cW,dm,du,de⟩:=Bo Tryz.Xk;have nQ:as_=none->cs=0:=ace;clear hL HE nA HT ES yx rK xd sL HI HG HA lQ mr HL Z3 Nn dP aj7;generalize eU s.aX=tJ at*;generalize s.aX.length=n at*;generalize dF g.st s=NL at*;go_wp2_with fail
   cases as_ with
   |none=>
    obtain rfl:=h0n rfl;obtain rfl:=nQ rfl;refine gD (S:=Ux eb g.st) 14 (by kernel_rfl) rfl rfl rfl (by kernel_rfl) (by kernel_rfl) ?_;have cF:=S4.o w.drew (aa.refl _ _).drew;refine aj 0 29 (.slice none 0 0) cF ?_;refine aj 1 30 (.slice none 0 0) cF ?_;refine aj 2 31 (GW (0:Int)) cF ?_;refine aj 3 32 (.slice none 0 0) cF ?_;refine aj 4 33 (GW (0:Int)) cF ?_;simp only[Act.put,Aa,Ad,Ac];refine aj 5 34 (.slice none 0 0) cF ?_;refine aj 6 35 (BT eb 0) cF ?_;refine aj 7 36 (BT eb 0) cF ?_;refine aj 8 37 (BT eb 0) cF ?_;refine aj 9 38 (GW g.st) cF ?_;refine aj 10 39 (GW nk) cF ?_;refine aj 11 40 (.agg #[GW g.st,GW nk]) cF ?_;simp only[Act.put,Aa,Ad,Ac];refine bR 12 fun K hK=>?_
    go_simp;have kA:aa ai w (w.alloc (.cells #[GW g.st,GW nk] 256)).drew:=((aa.refl ai w).alloc _).drew;refine hK.o _ _ (S4.o _ kA) (fun _=>?_);clear hK K;refine bR 13 fun K hK=>?_
    refine afB rfl (.tmp 34) (.tmp 41) 151 rfl 256 i0 _ 2 16 underlying151 cW dm du de rfl (by decide) (none) 0 tJ rfl (by omega) (by simp) (PQ.o _ kA) (GB w.heap.size 0) 1 1 [GW g.st,GW nk] rfl rfl ?nw (Te _ _) (by decide) (by unfold maxLen;omega) (by omega) ?_
    case nw=>
     intro j v hv;rw[LX];exact((au.new w #[GW g.st,GW nk] 256).cell j).trans (by simpa using hv)
    intro v' w7 ho dM;obtain⟨jl,c',rfl⟩:=cw ho;have aA:=ab (O8.o _ _ _ kA ho dM);have k7:aa ai w w7:=kA.eP dM (fun j hj=>by cases hj);have vS:=S4.o _ k7;refine hK.o _ _ vS (fun _=>?_);clear hK K ho dM k7 O8 PQ;refine At (by kernel_rfl) ?_ _;unfold eo;simp only[Ak,Ag,Ah];go_simp;go_wp2_with fail;go_meet
    case rel=>exact aA.o
   |some ad=>
    have hcI:¬((cs:Int)<(n:Int)):=(by omega);refine gD (S:=Ux eb g.st) 14 (by kernel_rfl) rfl rfl rfl (by kernel_rfl) (by kernel_rfl) ?_;have cF:=S4.o w.drew (aa.refl _ _).drew;refine aj 0 29 (.slice (some ad) n cs) cF ?_;refine aj 1 30 (.slice (some ad) n cs) cF ?_;refine aj 2 31 (GW (n:Int)) cF ?_;refine aj 3 32 (.slice (some ad) n cs) cF ?_;refine aj 4 33 (GW (n:Int)) cF ?_;simp only[Act.put,Aa,Ad,Ac];refine aj 5 34 (.slice (some ad) n n) cF ?_;refine aj 6 35 (BT eb 0) cF ?_;refine aj 7 36 (BT eb 0) cF ?_;refine aj 8 37 (BT eb 0) cF ?_;refine aj 9 38 (GW g.st) cF ?_;refine aj 10 39 (GW nk) cF ?_;refine aj 11 40 (.agg #[GW g.st,GW nk]) cF ?_;simp only[Act.put,Aa,Ad,Ac];refine bR 12 fun K hK=>?_
    go_simp;have kA:aa ai w (w.alloc (.cells #[GW g.st,GW nk] 256)).drew:=((aa.refl ai w).alloc _).drew;refine hK.o _ _ (S4.o _ kA) (fun _=>?_);clear hK K;refine bR 13 fun K hK=>?_
    refine afB rfl (.tmp 34) (.tmp 41) 151 rfl 256 i0 _ 2 16 underlying151 cW dm du de rfl (by decide) (some ad) n tJ rfl (by omega) (by simp) (PQ.o _ kA) (GB w.heap.size 0) 1 1 [GW g.st,GW nk] rfl rfl ?nw (Te _ _) (by decide) (by unfold maxLen;omega) (by omega) ?_
    case nw=>
     intro j v hv;rw[LX];exact((au.new w #[GW g.st,GW nk] 256).cell j).trans (by simpa using hv)
    intro v' w7 ho dM;obtain⟨jl,c',rfl⟩:=cw ho;have aA:=ab (O8.o _ _ _ kA ho dM);have k7:aa ai w w7:=kA.eP dM (fun j hj=>by cases hj);have vS:=S4.o _ k7;refine hK.o _ _ vS (fun _=>?_);clear hK K ho dM k7 O8 PQ;refine At (by kernel_rfl) ?_ _;unfold eo;simp only[Ak,Ag,Ah];go_simp;go_wp2_with fail;go_meet
    case rel=>exact aA.o
 case rest=>
  obtain⟨lb,lc,la,rfl,EW,ZZ,HK⟩:=hcut;clear HT ES c0 c1 c2 d7 h0n y_ ace Ns
  have S5:Hid (∀W,aa ai wc W->Uy eb p g.fb s.ah W):=fun W k=>by
   have k2:=HK.o.trans k;exact⟨(HE.o.kept k2 (fun hx=>hx)).cell 1,(lQ.o.kept k2 (fun hx=>hx)).cell 1⟩
  have hNt:Hid (∀q∈dF g.st s,0<=q.1/\q.1<(g.ms.length:Int)):=fun q hq=>by
   unfold dF at hq;split at hq
   ·exact nA.o.1.st q hq
   ·rcases Ap.1 hq with hq|hq
    ·exact nA.o.1.st q hq
    ·simp only[Bq]at hq;rw[hq];exact bD
  have hNl:(dF g.st s).length<=5000:=by unfold dF;split<;>first|omega|(simp;omega)
  have F:Hid (∀W,aa ai wc W->Calls prog 228 #[BT g.fb 0,.slice la (dF g.st s).length lc,.slice none 0 0,.int .i32 s.ah,.int .i32 bh] W fun e w'=>∃nv,e=.returned (.tuple #[nv,GW ((bc g.ms s.ah bh (dF g.st s)).2.getD 0),.bool (bc g.ms s.ah bh (dF g.st s)).2.isSome])/\w'.ownsRow 0 256 2 nv (bc g.ms s.ah bh (dF g.st s)).1.length (eU (bc g.ms s.ah bh (dF g.st s)).1)/\jh w' g/\cH (dL g (.slice none 0 0)) (dL g nv) W w'/\(∀i,nv.ownBlock=some i->(i≠g.fb/\i≠g.sb/\i≠g.bb)/\¬g.cP i)/\(bc g.ms s.ah bh (dF g.st s)).1.length<=g.ms.length):=fun W k=>
   ab4 HG.o (HI.o.new (HK.o.trans k)) hb (EW.o.kept k (fun _ hx=>hx)) (fun aB hx=>by
    rcases hx with hx|hx
    ·exact ZZ.o aB hx
    ·cases hx) hNt.o (by omega) (A8 _ _ _ _:W.ownsRow 0 256 2 (.slice none 0 0) 0 []) (fun i hi=>by cases hi) (by omega)
  go_wp2_with fail
  refine j_ (Cl (by kernel_rfl) (Ci (S:=Uy eb p g.fb s.ah) _ _ _ _ ?_));have ak:=S5.o wc.drew (aa.refl _ _).drew;refine aj 0 44 (BT eb 0) ak ?_;refine aj 1 45 (BT eb 0) ak ?_;refine aj 2 46 (BT eb 1) ak ?_;refine aj 3 47 (BT g.fb 0) ak ?_;refine aj 4 48 (.slice la (dF g.st s).length lc) ak ?_;refine aj 5 49 (BT p 0) ak ?_;refine aj 6 50 (BT p 0) ak ?_;refine aj 7 51 (BT p 1) ak ?_;refine aj 8 52 (.int .i32 s.ah) ak ?_;refine aj 9 53 (.int .i32 bh) ak ?_;simp only[Act.put,Aa,Ad,Ac];refine bR 10 fun K hK=>?_
  go_simp;refine(F.o _ (aa.refl _ _).drew).mono ?_;rintro e w4 ⟨nv,rfl,q1,q2,q3,q4,q5⟩;dsimp only
  have K4:Hid (aa (fun i=>i=g.fb\/i=g.sb\/i=g.bb) w w4):=(((HK.o.drew).mono (fun _ hx=>hx.elim)).trans (q3.kept.mono (fun i hx=>by
   rcases hx with hx|hx
   ·exact hx
   ·cases hx)))
  have nU:Hid (∀i,nv.ownBlock=some i->w.heap.size<=i):=fun i hi=>by
   have h1:=HK.o.size;rcases q3.aq i (Or.inr hi)with(hx|hx)|hx
   ·have:=(q4 i hi).1;omega
   ·cases hx
   ·have h2:wc.heap.size<=i:=hx;omega
  have CR:t.B p:=(rK.o.st p s sL.o).in_
  have cF:Uy eb p g.fb s.ah w4:=by
   have hf:=HA.o.fB;have he:=HA.o.ef;refine⟨(HE.o.kept K4.o (fun hx=>by omega)).cell 1,(lQ.o.kept K4.o (fun hx=>?_)).cell 1⟩;rcases hx with hx|hx|hx<;>rw[hx]at CR
   ·exact hf.1 CR
   ·exact hf.2.1 CR
   ·exact hf.2.2 CR
  refine hK.o _ _ cF (fun _=>?_);clear hK K F S5 EW ZZ ak;have Q1:=ab q1;have Q2:=ab q2;have Q5:=ab q5;have Q4:=ab q4;obtain⟨fY,c3,lj⟩:=cw q1;obtain⟨NX,VI⟩:∃NX,NX=bc g.ms s.ah bh (dF g.st s):=⟨_,rfl⟩
  rw[<-VI]at Q1 Q5 lj⊢;have oe:=ab VI;subst lj;clear q1 q2 q3 q4 q5 VI;refine aj 11 43 (.tuple #[.slice fY NX.1.length c3,GW (NX.2.getD 0),.bool NX.2.isSome]) cF ?_;refine aj 12 55 (.slice fY NX.1.length c3) cF ?_;refine aj 13 56 (GW (NX.2.getD 0)) cF ?_;refine aj 14 57 (.bool NX.2.isSome) cF ?_;refine aj 15 9 (.slice fY NX.1.length c3) cF ?_;refine aj 16 10 (GW (NX.2.getD 0)) cF ?_;refine aj 17 11 (.bool NX.2.isSome) cF ?_;simp only[Act.put,Aa,Ad,Ac];refine At (by kernel_rfl) ?_ _;refine jE ?_;clear cF;obtain⟨d2,Q_⟩:∃d2,d2=NX.2.getD (-1):=⟨_,rfl⟩
  have hdd:(NX.2.isSome=false->d2= -1)/\(NX.2.isSome=true->d2=NX.2.getD 0):=by
   rw[Q_]
   cases NX.2 with
   |none=>exact⟨fun _=>rfl,fun h=>(by cases h)⟩
   |some d=>exact⟨fun h=>(by cases h),fun _=>rfl⟩
  have TI:=ab Q_;clear Q_;generalize G6:NX.2.getD 0=d0 at*;generalize th:NX.2.isSome=d1 at*;have IX:=ab th;have TJ:=ab hdd;clear G6 th hdd;go_upto_if 59 with fail
  go_cut [10] (fun v10 wx=>v10=GW d2/\wx=w4)
  case first=>
   clear K4 nU Q1 Q2 Q5 oe rK xd HI HG HA HE lQ nA sL mr yx IX TI
   cases d1
   ·have e:=TJ.o.1 rfl;subst e;go_wp2_with fail;go_meet
    case rel=>exact⟨rfl,rfl⟩
   ·have e:=TJ.o.2 rfl;subst e;go_wp2_with fail;go_meet
    case rel=>exact⟨rfl,rfl⟩
  case rest=>
   obtain⟨rfl,J3⟩:=hcut;subst J3;have l7:NX.1.length<=10000:=by have:=Q5.o;have:=HG.o.bN;omega
   have F2:=ab (anU Q1.o l7);go_wp2_with fail;refine(F2.o).mono ?_;rintro e w5 ⟨ib,rfl,r1,r2,r3⟩;have K5:Hid (aa (fun i=>i=g.fb\/i=g.sb\/i=g.bb) w w5):=K4.o.b_ r3 (fun i hi hx=>by have:=nU.o i hx;omega)
   have hBf:∀i,(i=g.fb\/i=g.sb\/i=g.bb)->¬t.B i:=fun i hx=>by
    have hf:=HA.o.fB;rcases hx with rfl|rfl|rfl
    ·exact hf.1
    ·exact hf.2.1
    ·exact hf.2.2
   have TO:=ab (HE.o.kept K5.o (fun hx=>by have:=HA.o.ef;omega));have Z2:=ab (xd.o.kept K5.o (fun hx=>by have:=HA.o.mf;omega));have yE:=ab (rK.o.kept K5.o hBf);have ve:=ab (Q2.o.kept r3 (fun i hx=>⟨fun hy=>by have:=(Q4.o i hx).1;omega,(Q4.o i hx).2⟩));have yD:Hid (∀W,aa ai w5 W->Uz p s.mt W):=(fun W k=>⟨((lQ.o.kept K5.o (fun hx=>hBf p hx CR)).kept k (fun hx=>hx)).cell 2,Al _⟩);have R1:=ab r1;have R2:=ab r2;have aki:=cw r2;have acQ:=K4.o.size;have RH:=K5.o.size;clear F2 K4 Q1 Q2 r1 r2 r3 lQ HI xd rK HE;obtain⟨s1,cZ⟩:∃s1,s1=(m.o bh s).1:=⟨_,rfl⟩
   have f1:s1.aX=(fV NX.1).1:=by rw[cZ];unfold MC.o mL;rw[mr.o.1,mr.o.2,<-oe.o]
   have f2:s1.ah=jR g.ms bh:=by rw[cZ];unfold MC.o mL;rw[mr.o.1]
   have f3:s1.mt=(s.mt||d1):=by rw[cZ,<-IX.o];unfold MC.o mL;rw[mr.o.1,mr.o.2,<-oe.o]
   have f4:(m.o bh s).2.1=(fV NX.1).2:=by unfold MC.o mL;rw[mr.o.1,mr.o.2,<-oe.o]
   have f5:(m.o bh s).2.2=NX.2:=by unfold MC.o mL;rw[mr.o.1,mr.o.2,<-oe.o]
   have f6:s1.aX.length=NX.1.length:=by rw[f1];exact Yh _ _
   have JU:s1.Ok g.ms:=by
    have hq:=mr.o;have:=XW HG.o.fJ (s:=s) (st:=g.st) (j9:=jR g.ms bh) (bh:=bh) nA.o.1 (SX HG.o.fJ _ _ _) (by rw[<-oe.o];exact Q5.o);rw[cZ];unfold MC.o;rw[hq.1,hq.2];exact this.1
   have xF:s1.ah= -1\/s1.ah=119\/s1.ah=32:=by rw[f2];exact YB _ _
   have FS:Hid (∀W,aa ai w5 W->Calls prog 102 #[BT eb 0,.int .i32 bh] W fun e w'=>e=.returned (.int .i32 (jR g.ms bh))/\w'=W):=fun W k=>adb (TO.o.kept k (fun hx=>hx))
   have FK:Hid (∀W,aa ai w5 W->Calls prog 101 #[BT eb 0,.agg #[.slice fY NX.1.length c3,.int .i32 (jR g.ms bh),.bool (s.mt||d1),.slice none 0 0]] W (yH W mp mo t.T s1 (.slice fY NX.1.length c3))):=fun W k=>by
    have hr:=bU R1.o k (fun _ _ hx=>hx);rw[<-f1,<-f6]at hr;obtain⟨tb5,a5,c5,q1,q2,_⟩:=pX.of hr;obtain⟨eA,eC⟩:fY=a5/\c3=c5:=by simpa using q1
    subst eA eC;have:=ac6 (ms:=g.ms) (s:=s1) (c:=c3) (TO.o.kept k (fun hx=>hx)) (Z2.o.kept k (fun hx=>hx)) (fun e=>HA.o.em e.symm) (by have:=k.size;omega) fD (by have:=yE.o.ok;rw[mr.o.1]at this;exact this) ((yE.o.kept k (fun _ hx=>hx.elim)).fresh (Ab _)) HG.o.bN JU xF q2;rw[f6,f2,f3]at this;exact this
   have Zf:Hid (∀(W w6:World) (p6:Nat),aa ai w5 W->yH W mp mo t.T s1 (.slice fY NX.1.length c3) (.returned (BT p6 0)) w6->Qd w g m t mp mo bh s (.returned (BT w6.heap.size 0)) (w6.alloc (.cells #[BT p6 0,ib,GW d2] 317))):=fun W w6 p6 k se=>by
    obtain⟨p6',T',D',he,VL,uj,WJ⟩:=se.ex;have Hx:p6=p6':=(by simpa using he);subst Hx;have tX:aa (fun i=>i=mp) w5 w6:=(k.mono (fun _ hx=>hx.elim)).trans se.kept;have ka:aa ai w6 (w6.alloc (.cells #[BT p6 0,ib,GW d2] 317)):=(aa.refl ai w6).alloc _;have ako:=tX.size;have hr6:w6.ownsRow 0 256 2 (.slice fY NX.1.length c3) NX.1.length (eU (fV NX.1).1):=bU R1.o tX (fun i hi hx=>by have:=nU.o i hi;omega);have hh6:w6.ownsRow 0 3 1 ib (fV NX.1).2.length (cQ (fV NX.1).2):=ye (bU R2.o tX (fun i hi hx=>by have h1:=(dw R2.o hi).1;have h2:=acQ;omega)) (Al _);have hT6:iV w6 m t:=yE.o.kept tX (fun i hx=>by rw[hx];exact HA.o.mB);have hn6:t.T W.heap.size=none:=(yE.o.kept k (fun _ hx=>hx.elim)).fresh (Ab _)
    have FN:∃t1:TG,t.le t1/\iV w6 m t1/\t1.T=T'/\∀i,t1.B i->t.B i\/w.heap.size<=i:=by
     rcases WJ with h1|⟨h1,h2,h3⟩
     ·exact⟨t,TG.le.refl t,hT6,h1.symm,fun i hi=>Or.inl hi⟩
     ·have Hw:w5.heap.size<=p6:=by rw[h1];exact k.size
      refine⟨t.add p6 s1 (.slice fY s1.aX.length c3),TG.UA (by rw[h1];exact hn6),iV.add yE.o tX (fun i hx=>by rw[hx];exact HA.o.mB) Hw (by rw[f6];exact h3) (by rw[f6,f1];exact hr6) ⟨by rw[mr.o.1];exact JU,xF⟩,by rw[h2];rfl,fun i hi=>?_⟩;rcases hi with hi|hi|hi
      ·exact Or.inl hi
      ·right;omega
      ·right;rw[f6]at hi;exact nU.o i hi
    obtain⟨t1,g1,g2,g3,g4⟩:=FN;have vZ:=au.new w6 #[BT p6 0,ib,GW d2] 317;have g5:=t1.ai8 w6.heap.size ib
    have g6:iV (w6.alloc (.cells #[BT p6 0,ib,GW d2] 317)) m (t1.grow w6.heap.size ib):=by
     refine⟨fun b r hb=>(g2.st b r hb).fp ka (fun _ hx=>hx.elim) g5,fun i hi=>?_,g2.ok⟩;rcases hi with hi|hi|hi
     ·exact Ar (g2.lt i hi) ka.size
     ·rw[hi];exact vZ.lt
     ·exact Ar (dw hh6 hi).2 ka.size
    refine⟨⟨w6.heap.size,t1.grow w6.heap.size ib,D',rfl,g1.trans g5,g6,?_,⟨p6,ib,bh,⟨hb,rfl⟩,⟨?_,Or.inr (Or.inl rfl)⟩,?_,?_,fun i hi=>Or.inr (Or.inr hi)⟩,fun i hi=>?_⟩,?_,?_⟩
    ·have:=uj.kept ka (fun hx=>hx);rw[<-g3]at this;exact this
    ·rw[f5,<-TI.o];exact vZ
    ·show t1.T p6=_
     rw[g3,VL,cZ]
    ·rw[f4];exact bU hh6 ka (fun _ _ hx=>hx)
    ·rcases hi with hi|hi|hi
     ·exact g4 i hi
     ·right;omega
     ·right;have h1:=(dw R2.o hi).1;have h2:=acQ;omega
    ·exact(ve.o.kept tX (fun i hx=>by rw[hx];exact⟨fun hy=>by have:=HA.o.mf;omega,HA.o.mm⟩)).new ka
    ·exact((K5.o.mono (fun i hx=>Or.inr hx)).trans (tX.mono (fun i hx=>Or.inl hx))).trans (ka.mono (fun _ hx=>hx.elim))
   have SK:Hid (∀W w6,aa ai w5 W->aa (fun i=>i=mp) W w6->Uz p s.mt w6):=fun W w6 k1 k2=>by
    have h1:=(yD.o W k1).1;exact⟨(k2.cell (p:=(GB p 2)) (Bk _ _ h1) (fun e=>HA.o.mB (by rw[<-e];exact CR))).trans h1,Al _⟩
   clear TO Z2 yE ve R1 R2 K5;generalize aj0:s.mt=R_ at*;generalize jR g.ms bh=sa at*;obtain⟨ah5,ch5,RK⟩:∃a c,ib=Value.slice a (fV NX.1).2.length c:=aki
   generalize(fV NX.1).2.length=nh at RK
   subst RK;generalize NX.1.length=nn at*;clear f1 f2 f3 f4 f5 f6 JU xF cZ oe IX TI TJ Q4 Q5 nU HG HA nA sL mr yx HK aj0 l7;go_wp2_with fail;refine j_ (gD (S:=Uz p R_) 14 (by kernel_rfl) rfl rfl rfl (by kernel_rfl) (by kernel_rfl) ?_);have ak:=yD.o w5.drew (aa.refl _ _).drew;refine aj 0 62 (BT eb 0) ak ?_;refine aj 1 63 (.slice fY nn c3) ak ?_;refine aj 2 64 (BT eb 0) ak ?_;refine aj 3 65 (.int .i32 bh) ak ?_;refine aj 5 67 (BT p 0) ak ?_;refine aj 6 68 (BT p 0) ak ?_;refine aj 7 69 (BT p 2) ak ?_;refine aj 8 70 (.bool R_) ak ?_;simp only[Act.put,Aa,Ad,Ac];refine bR 4 fun K hK=>?_
   go_simp;refine(FS.o _ (aa.refl _ _).drew).mono ?_;rintro e w6 ⟨rfl,rfl⟩;dsimp only;refine hK.o _ _ ak (fun _=>?_);clear hK K FS;have Zg:Hid (∀b,b=(R_||d1)->∀W,aa ai w5 W->Calls prog 101 #[BT eb 0,.agg #[.slice fY nn c3,.int .i32 sa,.bool b,.slice none 0 0]] W (yH W mp mo t.T s1 (.slice fY nn c3))):=fun b hb=>by subst hb;exact FK.o
   clear FK
   cases R_
   ·refine aj 9 71 (.bool false) ak ?_;simp only[Act.put,Aa,Ad,Ac];refine lq 10 72 (.bool d1) ak ?_;simp only[Act.put,Aa,Ad,Ac];refine aj 11 73 (.bool d1) ak ?_;simp only[Act.put,Aa,Ad,Ac];refine aj 12 74 (.agg #[.slice fY nn c3,.int .i32 sa,.bool d1,.slice none 0 0]) ak ?_;simp only[Act.put,Aa,Ad,Ac];refine bR 13 fun K hK=>?_
    go_simp;refine(Zg.o d1 (by simp) _ (aa.refl _ _).drew).mono ?_;intro e w6 se;obtain⟨p6,T',D',he,_⟩:=se.ex;subst he;dsimp only;refine hK.o _ _ (SK.o _ _ (aa.refl _ _).drew se.kept) (fun _=>?_);have aA:=ab (Zf.o _ _ p6 (aa.refl _ _).drew se);clear hK K se;refine At (by kernel_rfl) ?_ _;unfold eo;simp only[Ak,Ag,Ah];go_simp;refine jE ?_;go_wp2_with fail;go_ret;exact aA.o
   ·refine aj 9 71 (.bool true) ak ?_;simp only[Act.put,Aa,Ad,Ac];refine lq 10 72 undef ak ?_;simp only[Act.put,Aa,Ad,Ac];refine aj 11 73 (.bool true) ak ?_;simp only[Act.put,Aa,Ad,Ac];refine aj 12 74 (.agg #[.slice fY nn c3,.int .i32 sa,.bool true,.slice none 0 0]) ak ?_;simp only[Act.put,Aa,Ad,Ac];refine bR 13 fun K hK=>?_
    go_simp;refine(Zg.o true (by simp) _ (aa.refl _ _).drew).mono ?_;intro e w6 se;obtain⟨p6,T',D',he,_⟩:=se.ex;subst he;dsimp only;refine hK.o _ _ (SK.o _ _ (aa.refl _ _).drew se.kept) (fun _=>?_);have aA:=ab (Zf.o _ _ p6 (aa.refl _ _).drew se);clear hK K se;refine At (by kernel_rfl) ?_ _;unfold eo;simp only[Ak,Ag,Ah];go_simp;refine jE ?_;go_wp2_with fail;go_ret;exact aA.o
theorem SB(l:List bJ):ij (fun x=>x) l=l:=by
 unfold ij;exact(Fz (fun t _=>rfl)).trans (List.map_id l)
theorem ao0{ms:List MS}{ah sU:Int}(h:FP ms ah ah bh sU)(l:List bJ):bc ms ah sU l=bc ms ah bh l:=by
 have:=YE h (fun x=>x) l;rw[SB,SB]at this;rw[this];refine Prod.ext rfl ?_;show(bc ms ah bh l).2.map (fun x=>x)=_
 cases(bc ms ah bh l).2<;>rfl
theorem MC.qu(h:tO m.ms m.cl){r r':Int}(hr:0<=r/\r<=1114111)(kF:0<=r'/\r'<=1114111)(hn:ju m.cl r=ju m.cl r')(s:dC):m.o r' s=m.o r s:=by
 unfold MC.o mL;rw[ao0 (h.qu hr kF hn s.ah),h.j9 hr kF hn]
theorem qH.at{q:Nat}(h:qH w m t s j q)(hc:tO m.ms m.cl)(hb:0<=bh/\bh<=1114111)(hj:ju m.cl bh=j):
 ∃(tq:Nat) (mv:Value),au w q #[BT tq 0,mv,GW ((m.o bh s).2.2.getD (-1))] 317/\t.T tq=some (m.o bh s).1/\w.ownsRow 0 3 1 mv (m.o bh s).2.1.length (cQ (m.o bh s).2.1)/\∀i,mv.ownBlock=some i->t.B i:=by
 obtain⟨tq,mv,b0,⟨h1,h2⟩,⟨h3,_⟩,h4,h5,h6⟩:=h.ex;have e:=MC.qu hc h1 hb (h2.trans hj.symm) s;rw[e];exact⟨tq,mv,h3,h4,h5,h6⟩
theorem ala(w:World)(a:Option Addr)(n c:Nat)(hn:n<=100000000):Calls prog 236 #[.slice a n c] w fun e w'=>e=.returned (GW ((n+1:Nat):Int))/\aa ai w w':=by
 go_in
 go_wp2_with fail
 go_ret
 exact⟨rfl,aa.refl _ _⟩
theorem als(n:Nat):madeCells (Value.pointer none).cells n=((List.replicate n (none:Option Nat)).map fun q=>Value.pointer (q.map fun q=>((GB q 0):Addr))).toArray:=by
 unfold madeCells;have e:(Value.pointer none).cells=#[Value.pointer none]:=rfl;rw[e];refine Array.ext (by simp) fun i h1 h2=>?_
 simp[Gl]
theorem Tryz.akH:(prog.info? 314).map (fun i=>(i.zero,i.size,i.bytes))=some (some (.pointer none),1,8):=by kernel_rfl
open Go.Sort
def iU(w:World)(g off sz:Nat)(d:Array Int):Prop:=∃aO:Array Value,w.heap[g]? =some (.cells aO 21 (0,0))/\aO.size=sz/\off+d.size<=sz/\∀t,t<d.size->aO[off+t]? =some (.int .i32 d[t]!)
theorem iU.ja(h:iU w g off sz d):(∀t,t<d.size->w.cell? ⟨g,off+t,none⟩=some (.int .i32 (d[t]!)))/\∀t,t<d.size->w.frozen? ⟨g,off+t,none⟩=false:=by
 obtain⟨aO,h1,h2,h3,h4⟩:=h;refine⟨fun t ht=>?_,fun t ht=>by simp[World.frozen?,h1]⟩;simp only[World.cell?,h1];simp[h4 t ht]
theorem iU.lt(h:iU w g off sz d):g<w.heap.size:=by
 obtain⟨aO,h1,_⟩:=h;exact(Am.1 h1).1
theorem iU.ok(h:iU w g off sz d):pg w g off d.size sz:=by
 obtain⟨aO,h1,h2,h3,h4⟩:=h;exact⟨aO,h1,h2,h3,fun t ht=>⟨_,h4 t ht⟩⟩
theorem abO(d:Array Int)(t:Nat)(r:Int)(h:t<d.size):(d.setIfInBounds t r)[t]! =r:=by simp[h]
theorem abN(d:Array Int)(t s:Nat)(r:Int)(h:t≠s):(d.setIfInBounds t r)[s]! =d[s]! :=by
 simp only[getElem!_def];rw[C7 h]
theorem iU.put(h:iU w g off sz d){t:Nat}(ht:t<d.size)(r:Int):iU (w.setCell ⟨g,off+t,none⟩ (.int .i32 r)) g off sz (d.setIfInBounds t r):=by
 obtain⟨aO,h1,h2,h3,h4⟩:=h;refine⟨aO.setIfInBounds (off+t) (.int .i32 r),?_,by simpa using h2,by simpa using h3,fun s hs=>?_⟩
 ·simp only[World.setCell,Ek];simp[h1]
 ·simp only[Array.size_setIfInBounds]at hs;by_cases e:s=t
  ·subst e;rw[Db (by omega),abO _ _ _ hs]
  ·rw[C7 (by omega),abN _ _ _ _ (fun x=>e x.symm)];exact h4 s hs
theorem iU.kept{w':World}{K:Nat->Prop}(h:iU w g off sz d)(k:aa K w w')(hg:¬K g):iU w' g off sz d:=by
 have hl:=h.lt;obtain⟨aO,h1,h2⟩:=h;exact⟨aO,(k.block g hl hg).trans h1,h2⟩
structure cB(w:World)(g off sz:Nat)(w':World)(d:Array Int):Prop where
 row:iU w' g off sz d
 kept:aa (fun i=>i=g) w w'
theorem cB.refl(h:iU w g off sz d):cB w g off sz w d:=⟨h,aa.refl _ _⟩
theorem cB.trans{w2:World}{d':Array Int}(h:cB w g off sz w1 d)(k:cB w1 g off sz w2 d'):cB w g off sz w2 d':=⟨k.row,h.kept.trans k.kept⟩
theorem cB.drewN(h:cB w g off sz w1 d)(q:Nat):cB w g off sz (w1.drewN q) d:=⟨h.row,h.kept.drewN q⟩
theorem cB.drew(h:cB w g off sz w1 d):cB w g off sz w1.drew d:=⟨h.row,h.kept.drew⟩
theorem cB.put(h:cB w g off sz w1 d){t:Nat}(ht:t<d.size)(r:Int):cB w g off sz (w1.setCell ⟨g,off+t,none⟩ (.int .i32 r)) (d.setIfInBounds t r):=⟨h.row.put ht r,h.kept.setCell (p:=⟨g,off+t,none⟩) (Or.inl rfl) _⟩
theorem cB.swap(h:cB w g off sz w1 d)(hi:i<d.size)(hj:j<d.size):cB w g off sz ((w1.setCell ⟨g,off+i,none⟩ (.int .i32 d[j]!)).setCell ⟨g,off+j,none⟩ (.int .i32 d[i]!)) (swp d i j):=
 (h.put hi _).put (by simpa using hj) _
theorem jd(x y:Int):ltInt x y=decide (x<y):=rfl
theorem akK(h:insInner ltInt a j c2=insInner ltInt a i c)(Nc:a<j)(hl:c2[j]! <c2[j-1]!):insInner ltInt a (j-1) (swp c2 j (j-1))=insInner ltInt a i c:=by
 obtain⟨k,rfl⟩:∃k,j=k+1:=⟨j-1,by omega⟩
 rw[<-h];conv=>rhs;unfold insInner
 rw[Cz]at hl⊢;rw[if_pos (by simp[jd,hl];omega)]
theorem akN(h:insInner ltInt a j c2=insInner ltInt a i c)(hl:¬c2[j]! <c2[j-1]!):c2=insInner ltInt a i c:=by
 rw[<-h]
 cases j with
 |zero=>rfl
 |succ k=>
  conv=>rhs;unfold insInner
  rw[Cz]at hl;rw[if_neg (by simp[jd];omega)]
theorem akM(h:insInner ltInt a j c2=insInner ltInt a i c)(Nc:j<=a):c2=insInner ltInt a i c:=by
 rw[<-h]
 cases j with
 |zero=>rfl
 |succ k=>
  conv=>rhs;unfold insInner
  rw[if_neg (by simp;omega)]
theorem akL(hd:d.size=n)(hR:iU w g off sz d)(lG:a<=b)(hb:b<=n)(hn:n<4611686018427387904):
 Calls prog 149 #[.slice (some (GB g off)) n cap,GW (a:Int),GW (b:Int)] w fun e w'=>e=.returned (.tuple #[])/\cB w g off sz w' (insertionSort ltInt d a b):=by
 go_enter func149,ntmps149
 go_wp2_with fail
 go_loopw [6] (fun vi wr=>∃(i:Nat) (c:Array Int),vi=GW (i:Int)/\a<i/\i<=b+1/\Hid (c.size=n)/\Hid (insOuter ltInt a b i c=insertionSort ltInt d a b)/\Hid (cB w g off sz wr c)) (fun vi _=>b+1-(dS vi).toNat)
 case atStart=>exact⟨a+1,d,by go_num,by omega,by omega,hd,rfl,cB.refl hR⟩
 case round=>
  obtain⟨i,c,rfl,hai,dW,hc,HE,HW⟩:=hrel;clear hR hd;go_wp2_with fail
  ·have az:i<b:=by assumption
   have ji:Hid (insOuter ltInt a b (i+1) (insInner ltInt a i c)=insertionSort ltInt d a b):=by
    have:=HE.o;unfold insOuter at this;rw[if_pos az]at this;exact this
   go_loopw [7] (fun vj wr2=>∃(j:Nat) (c2:Array Int),vj=GW (j:Int)/\a<=j/\j<=i/\Hid (c2.size=n)/\Hid (insInner ltInt a j c2=insInner ltInt a i c)/\Hid (cB w g off sz wr2 c2)) (fun vj _=>(dS vj).toNat)
   case atStart=>exact⟨i,c,rfl,by omega,Ab _,hc,rfl,HW⟩
   case round=>
    obtain⟨j,c2,rfl,haj,hji,jq,HI,eu⟩:=hrel;clear HW;obtain⟨bl,bT⟩:=eu.o.row.ja;rw[jq.o]at bl bT;go_wp2_with fail;by_cases Nc:a<j
    ·go_quiet (first|(go_at_call 155;refine As (jF _ _ _)))
     go_wp2_with fail
     ·go_region
      all_goals go_wp2_with fail
      go_roundw
      case rel=>
       refine⟨j-1,swp c2 j (j-1),by congr 1;omega,by omega,by omega,?_,akK HI.o Nc (by assumption),?_⟩
       ·exact(size_swp _ _ _).trans jq.o
       ·have:=jq.o;exact(eu.o.drewN _).swap (by omega) (by omega)
      case measure=>simp[dS];omega
     ·go_roundw
      case rel=>
       have e:=akN HI.o (by omega);exact⟨i+1,c2,by go_num,by omega,by omega,jq,by rw[e];exact ji,eu.o.drewN _⟩
      case measure=>simp[dS];omega
    ·go_quiet (first|(go_at_call 155;refine As (jF _ _ _)))
     go_wp2_with fail
     go_roundw
     case rel=>
      have e:=akM HI.o (by omega);exact⟨i+1,c2,by go_num,by omega,by omega,jq,by rw[e];exact ji,eu.o.drewN _⟩
     case measure=>simp[dS];omega
  ·have az:¬i<b:=(by assumption);go_end0
   have e:c=insertionSort ltInt d a b:=by
    have:=HE.o;unfold insOuter at this;rw[if_neg az]at this;exact this
   rw[<-e];exact⟨rfl,HW.o⟩
def PmV(w:World)(g off sz a b:Nat)(d:Array Int)(w':World):Prop:=∃c:Array Int,PermIn a b d c/\cB w g off sz w' c
theorem an9(hd:d.size=n)(hR:iU w g off sz d)(lG:a<b)(hb:b<=n)(hn:n<4611686018427387904):
 Calls prog 153 #[.slice (some (GB g off)) n cap,GW (a:Int),GW (b:Int)] w fun e w'=>e=.returned (.tuple #[])/\PmV w g off sz a b d w':=by
 go_enter func153,ntmps153
 go_wp2_with fail
 go_loopw [6,7] (fun vi vj wr=>∃(i j:Nat) (c:Array Int),vi=GW (i:Int)/\vj=GW (j:Int)/\a<=i/\j<b/\i<=b/\Hid (c.size=n)/\Hid (PermIn a b d c)/\Hid (cB w g off sz wr c)) (fun _ vj _=>(dS vj).toNat)
 case atStart=>exact⟨a,b-1,d,rfl,by congr 1;omega,by omega,by omega,by omega,hd,permIn_refl _ _ _,cB.refl hR⟩
 case round=>
  obtain⟨i,j,c,rfl,rfl,hi,hj,dW,hc,HP,HW⟩:=hrel;clear hR hd;obtain⟨bl,bT⟩:=HW.o.row.ja;rw[hc.o]at bl bT;by_cases cY:i<j
  ·have hz:(i:Int)<(j:Int):=(by omega);have eD:i<n:=(by omega);have mD:j<n:=(by omega);go_wp2_with fail;go_region;all_goals go_wp2_with fail
   go_roundw
   case rel=>
    refine⟨i+1,j-1,swp c i j,by go_num,by congr 1;omega,by omega,by omega,by omega,(size_swp _ _ _).trans hc.o,?_,?_⟩
    ·have:=hc.o;exact permIn_trans _ _ _ _ _ HP.o (swp_permIn _ _ _ _ _ hi (by omega) (by omega) hj (by omega))
    ·have:=hc.o;exact(HW.o.drew).swap (by omega) (by omega)
   case measure=>simp[dS];omega
  ·have hz:¬((i:Int)<(j:Int)):=(by omega);go_wp2_with fail;go_end0;exact⟨rfl,c,HP.o,HW.o⟩
