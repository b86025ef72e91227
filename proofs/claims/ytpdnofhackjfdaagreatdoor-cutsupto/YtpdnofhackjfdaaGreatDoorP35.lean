/- Package marks -/
import Derived.Test.YtpdnofhackjfdaaGreatDoorP34
set_option linter.all false
set_option maxRecDepth 100000
set_option maxHeartbeats 8000000
namespace Go.Proofs.YtpdnofhackjfdaaGreatDoor
open Go.Proofs.Tryz
open Go.RowKit Go.Maps
variable {c c2 d:Array Int} {bh:Int} {m:MC} {s:dq} {a b cap g i j n off sz:Nat} {P:Program} {t:TG} {w w1:World}
theorem ang(w:World)(t ty e:TypeId)(i:TypeInfo)(z:Value)(size bytes:Nat)(ht:P.underlying t=some (.slice e))(hi:P.info? e=some i)(hz:i.zero=some z)
 (xi:i.size=size)(AF:i.bytes=bytes)(AZ:z.cells.size=size)(aS:0<size)
 (ao:Option Addr)(n:Nat)(ti:List Value)(mL:ti.length=n*size)(h0:ao=none->n=0)(holds:∀b,ao=some b->∀j u,ti[j]? =some u->w.cell? (b.add j)=some u)
 (a:Addr)(m c:Nat)(news:List Value)(hl:news.length=m*size)(I1:∀j u,news[j]? =some u->w.cell? (a.add j)=some u)(h1:∀u∈news,u.oneCell'=true)
 (hm:0<m)(zY:n+m<=maxLen)(AG:(n+m)*bytes<=140737488355328):
 ∃v' w',(Builtin.append_ #[t,t] ty #[.slice ao n n,.slice (some a) m c]).run P w=.ok v' w'/\w'.ownsRow w.heap.size e size v' (n+m) (ti++news)/\w.grownBy w' none:=by
 cases ao with
 |none=>
  have hn:=h0 rfl;subst hn;have ho:ti=[]:=Aw.1 (by rw[mL,Eu]);subst ho;obtain⟨v',w',hr,h2,h3,h4,h5⟩:=run_append_own_at (P:=P) w w.heap.size t ty e i z size bytes ht hi hz xi AF AZ aS (.slice none 0 0) 0 [] (A7 _ _ _ _) a m c news hl I1 h1 zY AG (Ab _);exact⟨v',w',hr,h2,h3⟩
 |some b=>exact run_append_arg_grows w t ty e i z size bytes ht hi hz xi AF AZ aS b n n ti mL (holds b rfl) a m c news hl I1 (by omega) zY AG
theorem aeT{ops:Array Oper}{o:Oper}{a:Act}{K:Act->World->Prop}{Q:Exit->Act->World->Prop}{E:Prop}
 (hg:o.guard=none)(s x:Operand)(t:TypeId)(dY:o.op=.call {callee:=.builtin .append,args:=#[s,x],argTypes:=#[t,t]})
 (e:TypeId)(i:TypeInfo)(z:Value)(size bytes:Nat)(ht:P.underlying t=some (.slice e))(hi:P.info? e=some i)(hz:i.zero=some z)(xi:i.size=size)(AF:i.bytes=bytes)(AZ:z.cells.size=size)(aS:0<size)
 (ao:Option Addr)(n:Nat)(ti:List Value)(hs:a.eval s=.slice ao n n)(mL:ti.length=n*size)(h0:ao=none->n=0)(holds:∀b,ao=some b->∀j u,ti[j]? =some u->w.cell? (b.add j)=some u)
 (ad:Addr)(m c:Nat)(news:List Value)(hx:a.eval x=.slice (some ad) m c)(hl:news.length=m*size)(I1:∀j u,news[j]? =some u->w.cell? (ad.add j)=some u)(h1:∀u∈news,u.oneCell'=true)
 (hm:0<m)(zY:n+m<=maxLen)(AG:(n+m)*bytes<=140737488355328)
 (hK:∀v' w',w'.ownsRow w.heap.size e size v' (n+m) (ti++news)->w.grownBy w' none->K (a.put o.dst v') w'):
 if Region.wanted o (yielded ops a.tmps)=true then Oper.wp P o a w K Q else E:=by
 have hw:Region.wanted o (yielded ops a.tmps)=true:=by simp[Region.wanted,hg]
 rw[if_pos hw];obtain⟨v',w',hr,h2,h3⟩:=ang (P:=P) w t o.type e i z size bytes ht hi hz xi AF AZ aS ao n ti mL h0 holds ad m c news hl I1 h1 hm zY AG;unfold Oper.wp;simp[execOp,dY,resolve,invoke,builtin,hs,hx,hr,Result.andThen];exact hK _ _ h2 h3
structure JP(g:FG)(t:TG)(eb mp:Nat):Prop where
 em:eb≠mp
 ef:eb≠g.fb/\eb≠g.sb/\eb≠g.bb
 mf:mp≠g.fb/\mp≠g.sb/\mp≠g.bb
 mm:¬g.cI mp
 eB:¬t.B eb
 mB:¬t.B mp
 fB:¬t.B g.fb/\¬t.B g.sb/\¬t.B g.bb
structure OD(w:World)(g:FG)(m:MC)(t:TG)(mp:Nat)(mo bh:Int)(s:dq)(e:Ending)(w':World):Prop where
 ex:∃(q:Nat) (t':TG) (D':DataW Unit),e=.returned (.pointer (some ⟨q,0,none⟩))/\t.le t'/\iJ w' m t'/\lH w' mp mo t'.T D'/\qi w' m t' s (jl m.cl bh) q/\∀i,t'.B i->t.B i\/w.heap.size<=i
 fu:iZ w' g
 kept:aa (fun i=>i=mp\/i=g.fb\/i=g.sb\/i=g.bb) w w'
def Ta(p:Nat)(mt:Bool)(W:World):Prop:=W.cell? ⟨p,2,none⟩=some (.bool mt)/\0<=W.heap.size
def S_(eb p:Nat)(fb:Nat)(ah:Int)(W:World):Prop:=W.cell? ⟨eb,1,none⟩=some (.pointer (some ⟨fb,0,none⟩))/\W.cell? ⟨p,1,none⟩=some (.int .i32 ah)
def S8(eb:Nat)(st:Int)(W:World):Prop:=W.cell? ⟨eb,0,none⟩=some (.int .i64 st)/\0<=W.heap.size
theorem aoT{g:FG}{eb mp p mn QK:Nat}{mo:Int}{Ts nw:Value}{QJ:Option Addr}{D:DataW Unit}(hg:g.Ok)(FW:m.ms=g.ms/\m.st=g.st)(bt:0<=g.st/\g.st<g.ms.length)(hb:0<=bh/\bh<=1114111)
 (hE:aq w eb (pG g.st (.pointer (some ⟨g.fb,0,none⟩)) (oW g.ms) Ts mo mp nw (.slice QJ mn QK)) 159)(dG:mn=jm s.aU+(if s.mt then 0 else 1))(fL:2<=mo/\mo<=1000000000)(hmp:mp<w.heap.size)
 (LA:lH w mp mo t.T D)(qu:iJ w m t)(hs:t.T p=some s)(hI:iZ w g)(hA:JP g t eb mp):
 Calls prog 237 #[.pointer (some ⟨eb,0,none⟩),.pointer (some ⟨p,0,none⟩),.int .i32 bh] w (OD w g m t mp mo bh s):=by
 obtain⟨cs,as_,vZ,e1,⟨e2,e3⟩,_⟩:=(qu.st p s hs).ex;have AA:=qu.ok p s hs;rw[FW.1]at AA;have c0:w.cell? ⟨p,0,none⟩=some (.slice as_ s.aU.length cs):=e1.cell 0;have c1:w.cell? ⟨p,1,none⟩=some (.int .i32 s.ah):=e1.cell 1;have c2:w.cell? ⟨p,2,none⟩=some (.bool s.mt):=e1.cell 2;have d7:w.cell? ⟨eb,7,none⟩=some (.slice QJ mn QK):=hE.cell 7;have oo:=e1.lt;have aiG:=hE.lt
 have yt:s.aU.length<=cs:=by
  rcases e2.2 with⟨h1,h2⟩|⟨_,cap,_,h1,_,_,h4,_⟩
  ·simp only[Bi]at h1;omega
  ·simp only[Bi]at h1;omega
 have h0n:as_=none->s.aU.length=0:=fun h=>by
  rcases e2.2 with⟨h1,h2⟩|⟨_,cap,_,h1,_⟩
  ·exact h2
  ·rw[h]at h1;cases h1
 have abz:as_=none->cs=0:=fun h=>by
  rcases e2.2 with⟨h1,h2⟩|⟨_,cap,_,h1,_⟩
  ·simp only[Bi]at h1;exact h1.2.2
  ·rw[h]at h1;cases h1
 have Mh:(eF s.aU).length=s.aU.length*2:=He _;have aje:=trivial;obtain⟨tb,a2,OS,e4,hT,ki⟩:=pD.of e2;obtain⟨eA,eC⟩:as_=a2/\cs=OS:=by simpa using e4
 subst eA eC;clear e4;have cT:s.aU.length<=4001:=by have:=AA.1.bT;have:=hg.bT;omega
 have HE:=ab hE;have kZ:=ab AA;have HT:=ab hT;have CR:=ab ki;have CL:=ab e3;have qY:=ab qu;have wu:=ab LA;have sq:=ab hs;have HI:=ab hI;have HG:=ab hg;have HA:=ab hA;have lD:=ab e1;have l7:=ab FW;clear hE AA hT ki e3 qu LA hs hI hg hA e1 e2 FW;go_in;go_upto_if 22 with fail
 go_cut [7] (fun v7 wx=>∃(lb lc:Nat) (la:Option Addr),v7=.slice la (du g.st s).length lc/\Hid (pD wx lb la (du g.st s))/\Hid (du g.st s≠ []->¬(lb=g.fb\/lb=g.sb\/lb=g.bb))/\Hid (aa af w wx))
 case first=>
  cases iF:s.mt with
  |true=>
   have hL:du g.st s=s.aU:=by unfold du;rw[if_pos iF]
   have HL:=ab hL
   have H2:Hid (s.aU≠ []->¬(tb=g.fb\/tb=g.sb\/tb=g.bb)):=fun az hx=>by
    have hB:=CL.out tb (CR.out az);have hf:=HA.out.fB;rcases hx with hx|hx|hx<;>rw[hx]at hB
    ·exact hf.1 hB
    ·exact hf.2.1 hB
    ·exact hf.2.2 hB
   have HK:Hid (aa af w w):=aa.refl _ _;clear hL HE kZ CR CL qY wu sq HI HG HA lD l7;go_wp2_with fail;go_meet
   case rel=>exact⟨tb,cs,as_,by rw[HL.out],by rw[HL.out];exact HT,by rw[HL.out];exact H2,HK⟩
  |false=>
   have hL:du g.st s=s.aU++[(g.st,(jm s.aU:Int))]:=by unfold du;rw[if_neg (by rw[iF];simp)]
   have HL:=ab hL;have ai6:(mn:Int)-1=(jm s.aU:Int):=by rw[dG,iF];simp
   obtain⟨nk,Md⟩:∃nk:Int,nk=(jm s.aU:Int):=⟨_,rfl⟩
   rw[<-Md]at ai6;have YP:=ab Md;have apV:0<=nk/\nk<=5000:=by have:=kZ.out.1.TF;omega
   have aqm:wrap64 nk=nk:=by simp only[wrap64];omega
   have S4:Hid (∀W,aa af w W->S8 eb g.st W):=fun W k=>⟨(HE.out.kept k (fun hx=>hx)).cell 0,Am _⟩
   have Ou:Hid (∀W,aa af w W->∀b,as_=some b->∀j u,(eF s.aU)[j]? =some u->W.cell? (b.add j)=some u):=fun W k b hb j u hu=>by
    have az:s.aU≠ []:=by intro e;rw[e]at hu;simp[eF]at hu
    obtain⟨q1,q2⟩:=HT.out.at_ az;rw[q1]at hb
    cases hb;rw[KI]
    have hj:=(Ah.1 hu).1;rw[He]at hj;have fa:=HT.out.cells (j/2) (by omega);have rF:=RD (l:=s.aU) (k:=j/2) (by omega);refine(k.cell (p:=⟨tb,j,none⟩) q2 (fun hx=>hx)).trans ?_;rcases Ek j with h2|h2
    ·rw[show j/2*2=j by omega]at fa rF;rw[fa.1,<-rF.1,hu]
    ·rw[show j/2*2+1=j by omega]at fa rF;rw[fa.2,<-rF.2,hu]
   have NK:Hid (∀(W w7:World) (v':Value),aa af w W->w7.ownsRow W.heap.size 256 2 v' (s.aU.length+1) (eF s.aU++[.int .i64 g.st,.int .i64 nk])->W.grownBy w7 none->∃(lb lc:Nat) (la:Option Addr),v'=.slice la (du g.st s).length lc/\Hid (pD w7 lb la (du g.st s))/\Hid (du g.st s≠ []->¬(lb=g.fb\/lb=g.sb\/lb=g.bb))/\Hid (aa af w w7)):=fun W w7 v' k ho dK=>by
    have k7:aa af w w7:=k.eN dK (fun j hj=>by cases hj)
    have AM:w7.ownsRow W.heap.size 256 2 v' (du g.st s).length (eF (du g.st s)):=by
     rw[HL.out,Aj,Xv,<-YP.out];exact ho
    obtain⟨lb,la,lc,q1,q2,q3⟩:=pD.of AM;refine⟨lb,lc,la,q1,q2,fun az hx=>?_,k7⟩;have h1:=(dw AM (q3 az)).1;have h2:=k.size;obtain⟨_,_,_,s1,b1,hB,⟨hS,_⟩,⟨zZ,_⟩⟩:=HI.out.ex;have f1:=hB.lt;have f2:=hS.lt;have f3:=zZ.lt;omega
   obtain⟨i0,cP,di,dj,cY⟩:=Bo Tryz.VI;have nC:as_=none->cs=0:=abz;clear hL HE kZ HT CR CL qY wu sq HI HG HA lD l7 HL YP Md dG aje;generalize eF s.aU=ti at*;generalize s.aU.length=n at*;generalize du g.st s=NL at*;go_wp2_with fail
   cases as_ with
   |none=>
    obtain rfl:=h0n rfl;obtain rfl:=nC rfl;refine gW (S:=S8 eb g.st) 14 (by kernel_rfl) rfl rfl rfl (by kernel_rfl) (by kernel_rfl) ?_;have cw:=S4.out w.drew (aa.refl _ _).drew;refine ai 0 29 (.slice none 0 0) cw ?_;refine ai 1 30 (.slice none 0 0) cw ?_;refine ai 2 31 (.int .i64 (0:Int)) cw ?_;refine ai 3 32 (.slice none 0 0) cw ?_;refine ai 4 33 (.int .i64 (0:Int)) cw ?_;simp only[Act.put,Aa,Ad,Ac];refine ai 5 34 (.slice none 0 0) cw ?_;refine ai 6 35 (.pointer (some ⟨eb,0,none⟩)) cw ?_;refine ai 7 36 (.pointer (some ⟨eb,0,none⟩)) cw ?_;refine ai 8 37 (.pointer (some ⟨eb,0,none⟩)) cw ?_;refine ai 9 38 (.int .i64 g.st) cw ?_;refine ai 10 39 (.int .i64 nk) cw ?_;refine ai 11 40 (.agg #[.int .i64 g.st,.int .i64 nk]) cw ?_;simp only[Act.put,Aa,Ad,Ac];refine bN 12 fun K hK=>?_
    go_simp;have kA:aa af w (w.alloc (.cells #[.int .i64 g.st,.int .i64 nk] 256)).drew:=((aa.refl af w).alloc _).drew;refine hK.out _ _ (S4.out _ kA) (fun _=>?_);clear hK K;refine bN 13 fun K hK=>?_
    refine aeT rfl (.tmp 34) (.tmp 41) 151 rfl 256 i0 _ 2 16 underlying151 cP di dj cY rfl (by decide) (none) 0 ti rfl (by omega) (by simp) (Ou.out _ kA) ⟨w.heap.size,0,none⟩ 1 1 [.int .i64 g.st,.int .i64 nk] rfl rfl ?nw (RE _ _) (by decide) (by unfold maxLen;omega) (by omega) ?_
    case nw=>
     intro j v hv;rw[KI];exact((aq.new w #[.int .i64 g.st,.int .i64 nk] 256).cell j).trans (by simpa using hv)
    intro v' w7 ho dK;obtain⟨jd,c',rfl⟩:=cA ho;have ax:=ab (NK.out _ _ _ kA ho dK);have k7:aa af w w7:=kA.eN dK (fun j hj=>by cases hj);have vq:=S4.out _ k7;refine hK.out _ _ vq (fun _=>?_);clear hK K ho dK k7 NK Ou;refine At (by kernel_rfl) ?_ _;unfold eJ;simp only[Al,Ag,Ai];go_simp;go_wp2_with fail;go_meet
    case rel=>exact ax.out
   |some ad=>
    have hcI:¬((cs:Int)<(n:Int)):=(by omega);refine gW (S:=S8 eb g.st) 14 (by kernel_rfl) rfl rfl rfl (by kernel_rfl) (by kernel_rfl) ?_;have cw:=S4.out w.drew (aa.refl _ _).drew;refine ai 0 29 (.slice (some ad) n cs) cw ?_;refine ai 1 30 (.slice (some ad) n cs) cw ?_;refine ai 2 31 (.int .i64 (n:Int)) cw ?_;refine ai 3 32 (.slice (some ad) n cs) cw ?_;refine ai 4 33 (.int .i64 (n:Int)) cw ?_;simp only[Act.put,Aa,Ad,Ac];refine ai 5 34 (.slice (some ad) n n) cw ?_;refine ai 6 35 (.pointer (some ⟨eb,0,none⟩)) cw ?_;refine ai 7 36 (.pointer (some ⟨eb,0,none⟩)) cw ?_;refine ai 8 37 (.pointer (some ⟨eb,0,none⟩)) cw ?_;refine ai 9 38 (.int .i64 g.st) cw ?_;refine ai 10 39 (.int .i64 nk) cw ?_;refine ai 11 40 (.agg #[.int .i64 g.st,.int .i64 nk]) cw ?_;simp only[Act.put,Aa,Ad,Ac];refine bN 12 fun K hK=>?_
    go_simp;have kA:aa af w (w.alloc (.cells #[.int .i64 g.st,.int .i64 nk] 256)).drew:=((aa.refl af w).alloc _).drew;refine hK.out _ _ (S4.out _ kA) (fun _=>?_);clear hK K;refine bN 13 fun K hK=>?_
    refine aeT rfl (.tmp 34) (.tmp 41) 151 rfl 256 i0 _ 2 16 underlying151 cP di dj cY rfl (by decide) (some ad) n ti rfl (by omega) (by simp) (Ou.out _ kA) ⟨w.heap.size,0,none⟩ 1 1 [.int .i64 g.st,.int .i64 nk] rfl rfl ?nw (RE _ _) (by decide) (by unfold maxLen;omega) (by omega) ?_
    case nw=>
     intro j v hv;rw[KI];exact((aq.new w #[.int .i64 g.st,.int .i64 nk] 256).cell j).trans (by simpa using hv)
    intro v' w7 ho dK;obtain⟨jd,c',rfl⟩:=cA ho;have ax:=ab (NK.out _ _ _ kA ho dK);have k7:aa af w w7:=kA.eN dK (fun j hj=>by cases hj);have vq:=S4.out _ k7;refine hK.out _ _ vq (fun _=>?_);clear hK K ho dK k7 NK Ou;refine At (by kernel_rfl) ?_ _;unfold eJ;simp only[Al,Ag,Ai];go_simp;go_wp2_with fail;go_meet
    case rel=>exact ax.out
 case rest=>
  obtain⟨lb,lc,la,rfl,H5,YL,HK⟩:=hcut;clear HT CR c0 c1 c2 d7 h0n yt abz Mh
  have S5:Hid (∀W,aa af wc W->S_ eb p g.fb s.ah W):=fun W k=>by
   have k2:=HK.out.trans k;exact⟨(HE.out.kept k2 (fun hx=>hx)).cell 1,(lD.out.kept k2 (fun hx=>hx)).cell 1⟩
  have hNt:Hid (∀q∈du g.st s,0<=q.1/\q.1<(g.ms.length:Int)):=fun q hq=>by
   unfold du at hq;split at hq
   ·exact kZ.out.1.st q hq
   ·rcases Ap.1 hq with hq|hq
    ·exact kZ.out.1.st q hq
    ·simp only[Bm]at hq;rw[hq];exact bt
  have hNl:(du g.st s).length<=5000:=by unfold du;split<;>first|omega|(simp;omega)
  have F:Hid (∀W,aa af wc W->Calls prog 228 #[.pointer (some ⟨g.fb,0,none⟩),.slice la (du g.st s).length lc,.slice none 0 0,.int .i32 s.ah,.int .i32 bh] W fun e w'=>∃nv,e=.returned (.tuple #[nv,.int .i64 ((aZ g.ms s.ah bh (du g.st s)).2.getD 0),.bool (aZ g.ms s.ah bh (du g.st s)).2.isSome])/\w'.ownsRow 0 256 2 nv (aZ g.ms s.ah bh (du g.st s)).1.length (eF (aZ g.ms s.ah bh (du g.st s)).1)/\iZ w' g/\cF (dC g (.slice none 0 0)) (dC g nv) W w'/\(∀i,nv.ownBlock=some i->(i≠g.fb/\i≠g.sb/\i≠g.bb)/\¬g.cI i)/\(aZ g.ms s.ah bh (du g.st s)).1.length<=g.ms.length):=fun W k=>
   abo HG.out (HI.out.new (HK.out.trans k)) hb (H5.out.kept k (fun _ hx=>hx)) (fun az hx=>by
    rcases hx with hx|hx
    ·exact YL.out az hx
    ·cases hx) hNt.out (by omega) (A7 _ _ _ _:W.ownsRow 0 256 2 (.slice none 0 0) 0 []) (fun i hi=>by cases hi) (by omega)
  go_wp2_with fail
  refine jW (Cf (by kernel_rfl) (Cd (S:=S_ eb p g.fb s.ah) _ _ _ _ ?_));have aj:=S5.out wc.drew (aa.refl _ _).drew;refine ai 0 44 (.pointer (some ⟨eb,0,none⟩)) aj ?_;refine ai 1 45 (.pointer (some ⟨eb,0,none⟩)) aj ?_;refine ai 2 46 (.pointer (some ⟨eb,1,none⟩)) aj ?_;refine ai 3 47 (.pointer (some ⟨g.fb,0,none⟩)) aj ?_;refine ai 4 48 (.slice la (du g.st s).length lc) aj ?_;refine ai 5 49 (.pointer (some ⟨p,0,none⟩)) aj ?_;refine ai 6 50 (.pointer (some ⟨p,0,none⟩)) aj ?_;refine ai 7 51 (.pointer (some ⟨p,1,none⟩)) aj ?_;refine ai 8 52 (.int .i32 s.ah) aj ?_;refine ai 9 53 (.int .i32 bh) aj ?_;simp only[Act.put,Aa,Ad,Ac];refine bN 10 fun K hK=>?_
  go_simp;refine(F.out _ (aa.refl _ _).drew).mono ?_;rintro e w4 ⟨nv,rfl,q1,q2,q3,q4,q5⟩;dsimp only
  have K4:Hid (aa (fun i=>i=g.fb\/i=g.sb\/i=g.bb) w w4):=(((HK.out.drew).mono (fun _ hx=>hx.elim)).trans (q3.kept.mono (fun i hx=>by
   rcases hx with hx|hx
   ·exact hx
   ·cases hx)))
  have nG:Hid (∀i,nv.ownBlock=some i->w.heap.size<=i):=fun i hi=>by
   have h1:=HK.out.size;rcases q3.ak i (Or.inr hi)with(hx|hx)|hx
   ·have:=(q4 i hi).1;omega
   ·cases hx
   ·have h2:wc.heap.size<=i:=hx;omega
  have AO:t.B p:=(qY.out.st p s sq.out).in_
  have cw:S_ eb p g.fb s.ah w4:=by
   have hf:=HA.out.fB;have he:=HA.out.ef;refine⟨(HE.out.kept K4.out (fun hx=>by omega)).cell 1,(lD.out.kept K4.out (fun hx=>?_)).cell 1⟩;rcases hx with hx|hx|hx<;>rw[hx]at AO
   ·exact hf.1 AO
   ·exact hf.2.1 AO
   ·exact hf.2.2 AO
  refine hK.out _ _ cw (fun _=>?_);clear hK K F S5 H5 YL aj;have Q1:=ab q1;have Q2:=ab q2;have Q5:=ab q5;have Q4:=ab q4;obtain⟨fQ,c3,kT⟩:=cA q1;obtain⟨NX,Uk⟩:∃NX,NX=aZ g.ms s.ah bh (du g.st s):=⟨_,rfl⟩
  rw[<-Uk]at Q1 Q5 kT⊢;have nQ:=ab Uk;subst kT;clear q1 q2 q3 q4 q5 Uk;refine ai 11 43 (.tuple #[.slice fQ NX.1.length c3,.int .i64 (NX.2.getD 0),.bool NX.2.isSome]) cw ?_;refine ai 12 55 (.slice fQ NX.1.length c3) cw ?_;refine ai 13 56 (.int .i64 (NX.2.getD 0)) cw ?_;refine ai 14 57 (.bool NX.2.isSome) cw ?_;refine ai 15 9 (.slice fQ NX.1.length c3) cw ?_;refine ai 16 10 (.int .i64 (NX.2.getD 0)) cw ?_;refine ai 17 11 (.bool NX.2.isSome) cw ?_;simp only[Act.put,Aa,Ad,Ac];refine At (by kernel_rfl) ?_ _;refine jw ?_;clear cw;obtain⟨d2,PB⟩:∃d2,d2=NX.2.getD (-1):=⟨_,rfl⟩
  have hdd:(NX.2.isSome=false->d2= -1)/\(NX.2.isSome=true->d2=NX.2.getD 0):=by
   rw[PB]
   cases NX.2 with
   |none=>exact⟨fun _=>rfl,fun h=>(by cases h)⟩
   |some d=>exact⟨fun h=>(by cases h),fun _=>rfl⟩
  have Sd:=ab PB;clear PB;generalize ER:NX.2.getD 0=d0 at*;generalize rC:NX.2.isSome=d1 at*;have Hs:=ab rC;have Se:=ab hdd;clear ER rC hdd;go_upto_if 59 with fail
  go_cut [10] (fun v10 wx=>v10=.int .i64 d2/\wx=w4)
  case first=>
   clear K4 nG Q1 Q2 Q5 nQ qY wu HI HG HA HE lD kZ sq l7 CL Hs Sd
   cases d1
   ·have e:=Se.out.1 rfl;subst e;go_wp2_with fail;go_meet
    case rel=>exact⟨rfl,rfl⟩
   ·have e:=Se.out.2 rfl;subst e;go_wp2_with fail;go_meet
    case rel=>exact⟨rfl,rfl⟩
  case rest=>
   obtain⟨rfl,Jb⟩:=hcut;subst Jb;have lN:NX.1.length<=10000:=by have:=Q5.out;have:=HG.out.bT;omega
   have F2:=ab (amV Q1.out lN);go_wp2_with fail;refine(F2.out).mono ?_;rintro e w5 ⟨gR,rfl,r1,r2,r3⟩;have K5:Hid (aa (fun i=>i=g.fb\/i=g.sb\/i=g.bb) w w5):=K4.out.bV r3 (fun i hi hx=>by have:=nG.out i hx;omega)
   have hBf:∀i,(i=g.fb\/i=g.sb\/i=g.bb)->¬t.B i:=fun i hx=>by
    have hf:=HA.out.fB;rcases hx with rfl|rfl|rfl
    ·exact hf.1
    ·exact hf.2.1
    ·exact hf.2.2
   have Sh:=ab (HE.out.kept K5.out (fun hx=>by have:=HA.out.ef;omega));have YN:=ab (wu.out.kept K5.out (fun hx=>by have:=HA.out.mf;omega));have xZ:=ab (qY.out.kept K5.out hBf);have uJ:=ab (Q2.out.kept r3 (fun i hx=>⟨fun hy=>by have:=(Q4.out i hx).1;omega,(Q4.out i hx).2⟩));have xY:Hid (∀W,aa af w5 W->Ta p s.mt W):=(fun W k=>⟨((lD.out.kept K5.out (fun hx=>hBf p hx AO)).kept k (fun hx=>hx)).cell 2,Am _⟩);have R1:=ab r1;have R2:=ab r2;have ajq:=cA r2;have ab9:=K4.out.size;have Qm:=K5.out.size;clear F2 K4 Q1 Q2 r1 r2 r3 lD HI wu qY HE;obtain⟨s1,cR⟩:∃s1,s1=(m.out bh s).1:=⟨_,rfl⟩
   have f1:s1.aU=(fO NX.1).1:=by rw[cR];unfold MC.out mu;rw[l7.out.1,l7.out.2,<-nQ.out]
   have f2:s1.ah=jJ g.ms bh:=by rw[cR];unfold MC.out mu;rw[l7.out.1]
   have f3:s1.mt=(s.mt||d1):=by rw[cR,<-Hs.out];unfold MC.out mu;rw[l7.out.1,l7.out.2,<-nQ.out]
   have f4:(m.out bh s).2.1=(fO NX.1).2:=by unfold MC.out mu;rw[l7.out.1,l7.out.2,<-nQ.out]
   have f5:(m.out bh s).2.2=NX.2:=by unfold MC.out mu;rw[l7.out.1,l7.out.2,<-nQ.out]
   have f6:s1.aU.length=NX.1.length:=by rw[f1];exact WK _ _
   have I3:s1.Ok g.ms:=by
    have hq:=l7.out;have:=Wm HG.out.ft (s:=s) (st:=g.st) (jV:=jJ g.ms bh) (bh:=bh) kZ.out.1 (Rw HG.out.ft _ _ _) (by rw[<-nQ.out];exact Q5.out);rw[cR];unfold MC.out;rw[hq.1,hq.2];exact this.1
   have wU:s1.ah= -1\/s1.ah=119\/s1.ah=32:=by rw[f2];exact Xe _ _
   have FS:Hid (∀W,aa af w5 W->Calls prog 102 #[.pointer (some ⟨eb,0,none⟩),.int .i32 bh] W fun e w'=>e=.returned (.int .i32 (jJ g.ms bh))/\w'=W):=fun W k=>acx (Sh.out.kept k (fun hx=>hx))
   have FK:Hid (∀W,aa af w5 W->Calls prog 101 #[.pointer (some ⟨eb,0,none⟩),.agg #[.slice fQ NX.1.length c3,.int .i32 (jJ g.ms bh),.bool (s.mt||d1),.slice none 0 0]] W (x_ W mp mo t.T s1 (.slice fQ NX.1.length c3))):=fun W k=>by
    have hr:=bR R1.out k (fun _ _ hx=>hx);rw[<-f1,<-f6]at hr;obtain⟨tb5,a5,c5,q1,q2,_⟩:=pD.of hr;obtain⟨eA,eC⟩:fQ=a5/\c3=c5:=by simpa using q1
    subst eA eC;have:=acq (ms:=g.ms) (s:=s1) (c:=c3) (Sh.out.kept k (fun hx=>hx)) (YN.out.kept k (fun hx=>hx)) (fun e=>HA.out.em e.symm) (by have:=k.size;omega) fL (by have:=xZ.out.ok;rw[l7.out.1]at this;exact this) ((xZ.out.kept k (fun _ hx=>hx.elim)).fresh (Ab _)) HG.out.bT I3 wU q2;rw[f6,f2,f3]at this;exact this
   have XT:Hid (∀(W w6:World) (p6:Nat),aa af w5 W->x_ W mp mo t.T s1 (.slice fQ NX.1.length c3) (.returned (.pointer (some ⟨p6,0,none⟩))) w6->OD w g m t mp mo bh s (.returned (.pointer (some ⟨w6.heap.size,0,none⟩))) (w6.alloc (.cells #[.pointer (some ⟨p6,0,none⟩),gR,.int .i64 d2] 317))):=fun W w6 p6 k rH=>by
    obtain⟨p6',T',D',he,Un,tP,Vg⟩:=rH.ex;have w_:p6=p6':=(by simpa using he);subst w_;have tE:aa (fun i=>i=mp) w5 w6:=(k.mono (fun _ hx=>hx.elim)).trans rH.kept;have ka:aa af w6 (w6.alloc (.cells #[.pointer (some ⟨p6,0,none⟩),gR,.int .i64 d2] 317)):=(aa.refl af w6).alloc _;have ajv:=tE.size;have hr6:w6.ownsRow 0 256 2 (.slice fQ NX.1.length c3) NX.1.length (eF (fO NX.1).1):=bR R1.out tE (fun i hi hx=>by have:=nG.out i hi;omega);have hh6:w6.ownsRow 0 3 1 gR (fO NX.1).2.length (cH (fO NX.1).2):=xy (bR R2.out tE (fun i hi hx=>by have h1:=(dw R2.out hi).1;have h2:=ab9;omega)) (Am _);have hT6:iJ w6 m t:=xZ.out.kept tE (fun i hx=>by rw[hx];exact HA.out.mB);have hn6:t.T W.heap.size=none:=(xZ.out.kept k (fun _ hx=>hx.elim)).fresh (Ab _)
    have DC:∃t1:TG,t.le t1/\iJ w6 m t1/\t1.T=T'/\∀i,t1.B i->t.B i\/w.heap.size<=i:=by
     rcases Vg with h1|⟨h1,h2,h3⟩
     ·exact⟨t,TG.le.refl t,hT6,h1.symm,fun i hi=>Or.inl hi⟩
     ·have Gg:w5.heap.size<=p6:=by rw[h1];exact k.size
      refine⟨t.add p6 s1 (.slice fQ s1.aU.length c3),TG.Tb (by rw[h1];exact hn6),iJ.add xZ.out tE (fun i hx=>by rw[hx];exact HA.out.mB) Gg (by rw[f6];exact h3) (by rw[f6,f1];exact hr6) ⟨by rw[l7.out.1];exact I3,wU⟩,by rw[h2];rfl,fun i hi=>?_⟩;rcases hi with hi|hi|hi
      ·exact Or.inl hi
      ·right;omega
      ·right;rw[f6]at hi;exact nG.out i hi
    obtain⟨t1,g1,g2,g3,g4⟩:=DC;have vB:=aq.new w6 #[.pointer (some ⟨p6,0,none⟩),gR,.int .i64 d2] 317;have g5:=t1.aii w6.heap.size gR
    have g6:iJ (w6.alloc (.cells #[.pointer (some ⟨p6,0,none⟩),gR,.int .i64 d2] 317)) m (t1.grow w6.heap.size gR):=by
     refine⟨fun b r hb=>(g2.st b r hb).eV ka (fun _ hx=>hx.elim) g5,fun i hi=>?_,g2.ok⟩;rcases hi with hi|hi|hi
     ·exact Ar (g2.lt i hi) ka.size
     ·rw[hi];exact vB.lt
     ·exact Ar (dw hh6 hi).2 ka.size
    refine⟨⟨w6.heap.size,t1.grow w6.heap.size gR,D',rfl,g1.trans g5,g6,?_,⟨p6,gR,bh,⟨hb,rfl⟩,⟨?_,Or.inr (Or.inl rfl)⟩,?_,?_,fun i hi=>Or.inr (Or.inr hi)⟩,fun i hi=>?_⟩,?_,?_⟩
    ·have:=tP.kept ka (fun hx=>hx);rw[<-g3]at this;exact this
    ·rw[f5,<-Sd.out];exact vB
    ·show t1.T p6=_
     rw[g3,Un,cR]
    ·rw[f4];exact bR hh6 ka (fun _ _ hx=>hx)
    ·rcases hi with hi|hi|hi
     ·exact g4 i hi
     ·right;omega
     ·right;have h1:=(dw R2.out hi).1;have h2:=ab9;omega
    ·exact(uJ.out.kept tE (fun i hx=>by rw[hx];exact⟨fun hy=>by have:=HA.out.mf;omega,HA.out.mm⟩)).new ka
    ·exact((K5.out.mono (fun i hx=>Or.inr hx)).trans (tE.mono (fun i hx=>Or.inl hx))).trans (ka.mono (fun _ hx=>hx.elim))
   have SK:Hid (∀W w6,aa af w5 W->aa (fun i=>i=mp) W w6->Ta p s.mt w6):=fun W w6 k1 k2=>by
    have h1:=(xY.out W k1).1;exact⟨(k2.cell (p:=⟨p,2,none⟩) (Bh _ _ h1) (fun e=>HA.out.mB (by rw[<-e];exact AO))).trans h1,Am _⟩
   clear Sh YN xZ uJ R1 R2 K5;generalize ai9:s.mt=QL at*;generalize jJ g.ms bh=sa at*;obtain⟨ah5,ch5,Qq⟩:∃a c,gR=Value.slice a (fO NX.1).2.length c:=ajq
   generalize(fO NX.1).2.length=nh at Qq
   subst Qq;generalize NX.1.length=nn at*;clear f1 f2 f3 f4 f5 f6 I3 wU cR nQ Hs Sd Se Q4 Q5 nG HG HA kZ sq l7 CL HK ai9 lN;go_wp2_with fail;refine jW (gW (S:=Ta p QL) 14 (by kernel_rfl) rfl rfl rfl (by kernel_rfl) (by kernel_rfl) ?_);have aj:=xY.out w5.drew (aa.refl _ _).drew;refine ai 0 62 (.pointer (some ⟨eb,0,none⟩)) aj ?_;refine ai 1 63 (.slice fQ nn c3) aj ?_;refine ai 2 64 (.pointer (some ⟨eb,0,none⟩)) aj ?_;refine ai 3 65 (.int .i32 bh) aj ?_;refine ai 5 67 (.pointer (some ⟨p,0,none⟩)) aj ?_;refine ai 6 68 (.pointer (some ⟨p,0,none⟩)) aj ?_;refine ai 7 69 (.pointer (some ⟨p,2,none⟩)) aj ?_;refine ai 8 70 (.bool QL) aj ?_;simp only[Act.put,Aa,Ad,Ac];refine bN 4 fun K hK=>?_
   go_simp;refine(FS.out _ (aa.refl _ _).drew).mono ?_;rintro e w6 ⟨rfl,rfl⟩;dsimp only;refine hK.out _ _ aj (fun _=>?_);clear hK K FS;have XU:Hid (∀b,b=(QL||d1)->∀W,aa af w5 W->Calls prog 101 #[.pointer (some ⟨eb,0,none⟩),.agg #[.slice fQ nn c3,.int .i32 sa,.bool b,.slice none 0 0]] W (x_ W mp mo t.T s1 (.slice fQ nn c3))):=fun b hb=>by subst hb;exact FK.out
   clear FK
   cases QL
   ·refine ai 9 71 (.bool false) aj ?_;simp only[Act.put,Aa,Ad,Ac];refine kY 10 72 (.bool d1) aj ?_;simp only[Act.put,Aa,Ad,Ac];refine ai 11 73 (.bool d1) aj ?_;simp only[Act.put,Aa,Ad,Ac];refine ai 12 74 (.agg #[.slice fQ nn c3,.int .i32 sa,.bool d1,.slice none 0 0]) aj ?_;simp only[Act.put,Aa,Ad,Ac];refine bN 13 fun K hK=>?_
    go_simp;refine(XU.out d1 (by simp) _ (aa.refl _ _).drew).mono ?_;intro e w6 rH;obtain⟨p6,T',D',he,_⟩:=rH.ex;subst he;dsimp only;refine hK.out _ _ (SK.out _ _ (aa.refl _ _).drew rH.kept) (fun _=>?_);have ax:=ab (XT.out _ _ p6 (aa.refl _ _).drew rH);clear hK K rH;refine At (by kernel_rfl) ?_ _;unfold eJ;simp only[Al,Ag,Ai];go_simp;refine jw ?_;go_wp2_with fail;go_ret;exact ax.out
   ·refine ai 9 71 (.bool true) aj ?_;simp only[Act.put,Aa,Ad,Ac];refine kY 10 72 undef aj ?_;simp only[Act.put,Aa,Ad,Ac];refine ai 11 73 (.bool true) aj ?_;simp only[Act.put,Aa,Ad,Ac];refine ai 12 74 (.agg #[.slice fQ nn c3,.int .i32 sa,.bool true,.slice none 0 0]) aj ?_;simp only[Act.put,Aa,Ad,Ac];refine bN 13 fun K hK=>?_
    go_simp;refine(XU.out true (by simp) _ (aa.refl _ _).drew).mono ?_;intro e w6 rH;obtain⟨p6,T',D',he,_⟩:=rH.ex;subst he;dsimp only;refine hK.out _ _ (SK.out _ _ (aa.refl _ _).drew rH.kept) (fun _=>?_);have ax:=ab (XT.out _ _ p6 (aa.refl _ _).drew rH);clear hK K rH;refine At (by kernel_rfl) ?_ _;unfold eJ;simp only[Al,Ag,Ai];go_simp;refine jw ?_;go_wp2_with fail;go_ret;exact ax.out
theorem Rf(l:List bF):gV (fun x=>x) l=l:=by
 unfold gV;exact(Ft (fun t _=>rfl)).trans (List.map_id l)
theorem anV{ms:List MS}{ah sD:Int}(h:DD ms ah ah bh sD)(l:List bF):aZ ms ah sD l=aZ ms ah bh l:=by
 have:=Xh h (fun x=>x) l;rw[Rf,Rf]at this;rw[this];refine Prod.ext rfl ?_;show(aZ ms ah bh l).2.map (fun x=>x)=_
 cases(aZ ms ah bh l).2<;>rfl
theorem MC.sh(h:tt m.ms m.cl){r r':Int}(hr:0<=r/\r<=1114111)(ko:0<=r'/\r'<=1114111)(hn:jl m.cl r=jl m.cl r')(s:dq):m.out r' s=m.out r s:=by
 unfold MC.out mu;rw[anV (h.sh hr ko hn s.ah),h.jV hr ko hn]
theorem qi.at{q:Nat}(h:qi w m t s j q)(hc:tt m.ms m.cl)(hb:0<=bh/\bh<=1114111)(hj:jl m.cl bh=j):
 ∃(tq:Nat) (mv:Value),aq w q #[.pointer (some ⟨tq,0,none⟩),mv,.int .i64 ((m.out bh s).2.2.getD (-1))] 317/\t.T tq=some (m.out bh s).1/\w.ownsRow 0 3 1 mv (m.out bh s).2.1.length (cH (m.out bh s).2.1)/\∀i,mv.ownBlock=some i->t.B i:=by
 obtain⟨tq,mv,b0,⟨h1,h2⟩,⟨h3,_⟩,h4,h5,h6⟩:=h.ex;have e:=MC.sh hc h1 hb (h2.trans hj.symm) s;rw[e];exact⟨tq,mv,h3,h4,h5,h6⟩
theorem akh(w:World)(a:Option Addr)(n c:Nat)(hn:n<=100000000):Calls prog 236 #[.slice a n c] w fun e w'=>e=.returned (.int .i64 ((n+1:Nat):Int))/\aa af w w':=by
 go_in
 go_wp2_with fail
 go_ret
 exact⟨rfl,aa.refl _ _⟩
theorem akA(n:Nat):madeCells (Value.pointer none).cells n=((List.replicate n (none:Option Nat)).map fun q=>Value.pointer (q.map fun q=>(⟨q,0,none⟩:Addr))).toArray:=by
 unfold madeCells;have e:(Value.pointer none).cells=#[Value.pointer none]:=rfl;rw[e];refine Array.ext (by simp) fun i h1 h2=>?_
 simp[Gd]
theorem Tryz.ajO:(prog.info? 314).map (fun i=>(i.zero,i.size,i.bytes))=some (some (.pointer none),1,8):=by kernel_rfl
open Go.Sort
def iI(w:World)(g off sz:Nat)(d:Array Int):Prop:=∃aL:Array Value,w.heap[g]? =some (.cells aL 21 (0,0))/\aL.size=sz/\off+d.size<=sz/\∀t,t<d.size->aL[off+t]? =some (.int .i32 d[t]!)
theorem iI.iQ(h:iI w g off sz d):(∀t,t<d.size->w.cell? ⟨g,off+t,none⟩=some (.int .i32 (d[t]!)))/\∀t,t<d.size->w.frozen? ⟨g,off+t,none⟩=false:=by
 obtain⟨aL,h1,h2,h3,h4⟩:=h;refine⟨fun t ht=>?_,fun t ht=>by simp[World.frozen?,h1]⟩;simp only[World.cell?,h1];simp[h4 t ht]
theorem iI.lt(h:iI w g off sz d):g<w.heap.size:=by
 obtain⟨aL,h1,_⟩:=h;exact(Ak.1 h1).1
theorem iI.ok(h:iI w g off sz d):oP w g off d.size sz:=by
 obtain⟨aL,h1,h2,h3,h4⟩:=h;exact⟨aL,h1,h2,h3,fun t ht=>⟨_,h4 t ht⟩⟩
theorem aa8(d:Array Int)(t:Nat)(r:Int)(h:t<d.size):(d.setIfInBounds t r)[t]! =r:=by simp[h]
theorem aa7(d:Array Int)(t s:Nat)(r:Int)(h:t≠s):(d.setIfInBounds t r)[s]! =d[s]! :=by
 simp only[getElem!_def];rw[C5 h]
theorem iI.put(h:iI w g off sz d){t:Nat}(ht:t<d.size)(r:Int):iI (w.setCell ⟨g,off+t,none⟩ (.int .i32 r)) g off sz (d.setIfInBounds t r):=by
 obtain⟨aL,h1,h2,h3,h4⟩:=h;refine⟨aL.setIfInBounds (off+t) (.int .i32 r),?_,by simpa using h2,by simpa using h3,fun s hs=>?_⟩
 ·simp only[World.setCell,Ef];simp[h1]
 ·simp only[Array.size_setIfInBounds]at hs;by_cases e:s=t
  ·subst e;rw[C8 (by omega),aa8 _ _ _ hs]
  ·rw[C5 (by omega),aa7 _ _ _ _ (fun x=>e x.symm)];exact h4 s hs
theorem iI.kept{w':World}{K:Nat->Prop}(h:iI w g off sz d)(k:aa K w w')(hg:¬K g):iI w' g off sz d:=by
 have hl:=h.lt;obtain⟨aL,h1,h2⟩:=h;exact⟨aL,(k.block g hl hg).trans h1,h2⟩
structure cd(w:World)(g off sz:Nat)(w':World)(d:Array Int):Prop where
 row:iI w' g off sz d
 kept:aa (fun i=>i=g) w w'
theorem cd.refl(h:iI w g off sz d):cd w g off sz w d:=⟨h,aa.refl _ _⟩
theorem cd.trans{w2:World}{d':Array Int}(h:cd w g off sz w1 d)(k:cd w1 g off sz w2 d'):cd w g off sz w2 d':=⟨k.row,h.kept.trans k.kept⟩
theorem cd.drewN(h:cd w g off sz w1 d)(q:Nat):cd w g off sz (w1.drewN q) d:=⟨h.row,h.kept.drewN q⟩
theorem cd.drew(h:cd w g off sz w1 d):cd w g off sz w1.drew d:=⟨h.row,h.kept.drew⟩
theorem cd.put(h:cd w g off sz w1 d){t:Nat}(ht:t<d.size)(r:Int):cd w g off sz (w1.setCell ⟨g,off+t,none⟩ (.int .i32 r)) (d.setIfInBounds t r):=⟨h.row.put ht r,h.kept.setCell (p:=⟨g,off+t,none⟩) (Or.inl rfl) _⟩
theorem cd.swap(h:cd w g off sz w1 d)(hi:i<d.size)(hj:j<d.size):cd w g off sz ((w1.setCell ⟨g,off+i,none⟩ (.int .i32 d[j]!)).setCell ⟨g,off+j,none⟩ (.int .i32 d[i]!)) (swp d i j):=
 (h.put hi _).put (by simpa using hj) _
theorem iV(x y:Int):ltInt x y=decide (x<y):=rfl
theorem ajR(h:insInner ltInt a j c2=insInner ltInt a i c)(L5:a<j)(hl:c2[j]! <c2[j-1]!):insInner ltInt a (j-1) (swp c2 j (j-1))=insInner ltInt a i c:=by
 obtain⟨k,rfl⟩:∃k,j=k+1:=⟨j-1,by omega⟩
 rw[<-h];conv=>rhs;unfold insInner
 rw[Ct]at hl⊢;rw[if_pos (by simp[iV,hl];omega)]
theorem ajU(h:insInner ltInt a j c2=insInner ltInt a i c)(hl:¬c2[j]! <c2[j-1]!):c2=insInner ltInt a i c:=by
 rw[<-h]
 cases j with
 |zero=>rfl
 |succ k=>
  conv=>rhs;unfold insInner
  rw[Ct]at hl;rw[if_neg (by simp[iV];omega)]
theorem ajT(h:insInner ltInt a j c2=insInner ltInt a i c)(L5:j<=a):c2=insInner ltInt a i c:=by
 rw[<-h]
 cases j with
 |zero=>rfl
 |succ k=>
  conv=>rhs;unfold insInner
  rw[if_neg (by simp;omega)]
theorem ajS(hd:d.size=n)(hR:iI w g off sz d)(lq:a<=b)(hb:b<=n)(hn:n<4611686018427387904):
 Calls prog 149 #[.slice (some ⟨g,off,none⟩) n cap,.int .i64 (a:Int),.int .i64 (b:Int)] w fun e w'=>e=.returned (.tuple #[])/\cd w g off sz w' (insertionSort ltInt d a b):=by
 go_enter func149,ntmps149
 go_wp2_with fail
 go_loopw [6] (fun vi wr=>∃(i:Nat) (c:Array Int),vi=.int .i64 (i:Int)/\a<i/\i<=b+1/\Hid (c.size=n)/\Hid (insOuter ltInt a b i c=insertionSort ltInt d a b)/\Hid (cd w g off sz wr c)) (fun vi _=>b+1-(dJ vi).toNat)
 case atStart=>exact⟨a+1,d,by go_num,by omega,by omega,hd,rfl,cd.refl hR⟩
 case round=>
  obtain⟨i,c,rfl,hai,dN,hc,HE,HW⟩:=hrel;clear hR hd;go_wp2_with fail
  ·have aw:i<b:=by assumption
   have ja:Hid (insOuter ltInt a b (i+1) (insInner ltInt a i c)=insertionSort ltInt d a b):=by
    have:=HE.out;unfold insOuter at this;rw[if_pos aw]at this;exact this
   go_loopw [7] (fun vj wr2=>∃(j:Nat) (c2:Array Int),vj=.int .i64 (j:Int)/\a<=j/\j<=i/\Hid (c2.size=n)/\Hid (insInner ltInt a j c2=insInner ltInt a i c)/\Hid (cd w g off sz wr2 c2)) (fun vj _=>(dJ vj).toNat)
   case atStart=>exact⟨i,c,rfl,by omega,Ab _,hc,rfl,HW⟩
   case round=>
    obtain⟨j,c2,rfl,haj,hji,jh,HI,dV⟩:=hrel;clear HW;obtain⟨bj,bM⟩:=dV.out.row.iQ;rw[jh.out]at bj bM;go_wp2_with fail;by_cases L5:a<j
    ·go_quiet (first|(go_at_call 155;refine As (jx _ _ _)))
     go_wp2_with fail
     ·go_region
      all_goals go_wp2_with fail
      go_roundw
      case rel=>
       refine⟨j-1,swp c2 j (j-1),by congr 1;omega,by omega,by omega,?_,ajR HI.out L5 (by assumption),?_⟩
       ·exact(size_swp _ _ _).trans jh.out
       ·have:=jh.out;exact(dV.out.drewN _).swap (by omega) (by omega)
      case measure=>simp[dJ];omega
     ·go_roundw
      case rel=>
       have e:=ajU HI.out (by omega);exact⟨i+1,c2,by go_num,by omega,by omega,jh,by rw[e];exact ja,dV.out.drewN _⟩
      case measure=>simp[dJ];omega
    ·go_quiet (first|(go_at_call 155;refine As (jx _ _ _)))
     go_wp2_with fail
     go_roundw
     case rel=>
      have e:=ajT HI.out (by omega);exact⟨i+1,c2,by go_num,by omega,by omega,jh,by rw[e];exact ja,dV.out.drewN _⟩
     case measure=>simp[dJ];omega
  ·have aw:¬i<b:=(by assumption);go_end0
   have e:c=insertionSort ltInt d a b:=by
    have:=HE.out;unfold insOuter at this;rw[if_neg aw]at this;exact this
   rw[<-e];exact⟨rfl,HW.out⟩
def Zr(w:World)(g off sz a b:Nat)(d:Array Int)(w':World):Prop:=∃c:Array Int,PermIn a b d c/\cd w g off sz w' c
theorem am_(hd:d.size=n)(hR:iI w g off sz d)(lq:a<b)(hb:b<=n)(hn:n<4611686018427387904):
 Calls prog 153 #[.slice (some ⟨g,off,none⟩) n cap,.int .i64 (a:Int),.int .i64 (b:Int)] w fun e w'=>e=.returned (.tuple #[])/\Zr w g off sz a b d w':=by
 go_enter func153,ntmps153
 go_wp2_with fail
 go_loopw [6,7] (fun vi vj wr=>∃(i j:Nat) (c:Array Int),vi=.int .i64 (i:Int)/\vj=.int .i64 (j:Int)/\a<=i/\j<b/\i<=b/\Hid (c.size=n)/\Hid (PermIn a b d c)/\Hid (cd w g off sz wr c)) (fun _ vj _=>(dJ vj).toNat)
 case atStart=>exact⟨a,b-1,d,rfl,by congr 1;omega,by omega,by omega,by omega,hd,permIn_refl _ _ _,cd.refl hR⟩
 case round=>
  obtain⟨i,j,c,rfl,rfl,hi,hj,dN,hc,HP,HW⟩:=hrel;clear hR hd;obtain⟨bj,bM⟩:=HW.out.row.iQ;rw[hc.out]at bj bM;by_cases cQ:i<j
  ·have hz:(i:Int)<(j:Int):=(by omega);have dR:i<n:=(by omega);have mg:j<n:=(by omega);go_wp2_with fail;go_region;all_goals go_wp2_with fail
   go_roundw
   case rel=>
    refine⟨i+1,j-1,swp c i j,by go_num,by congr 1;omega,by omega,by omega,by omega,(size_swp _ _ _).trans hc.out,?_,?_⟩
    ·have:=hc.out;exact permIn_trans _ _ _ _ _ HP.out (swp_permIn _ _ _ _ _ hi (by omega) (by omega) hj (by omega))
    ·have:=hc.out;exact(HW.out.drew).swap (by omega) (by omega)
   case measure=>simp[dJ];omega
  ·have hz:¬((i:Int)<(j:Int)):=(by omega);go_wp2_with fail;go_end0;exact⟨rfl,c,HP.out,HW.out⟩
end Go.Proofs.YtpdnofhackjfdaaGreatDoor
