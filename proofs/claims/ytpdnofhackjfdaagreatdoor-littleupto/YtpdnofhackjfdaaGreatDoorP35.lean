/- Package marks -/
import Derived.Test.YtpdnofhackjfdaaGreatDoorP34
set_option linter.all false
set_option maxRecDepth 100000
set_option maxHeartbeats 8000000
namespace Go.Proofs.YtpdnofhackjfdaaGreatDoor
open Go.Proofs.Tryz
open Go.RowKit Go.Maps
variable {c c2 d:Array Int} {bh:Int} {m:MC} {s:dt} {a b cap g i j n off sz:Nat} {P:Program} {t:TG} {w w1:World}
theorem anM(w:World)(t ty e:TypeId)(i:TypeInfo)(z:Value)(size bytes:Nat)(ht:P.underlying t=some (.slice e))(hi:P.info? e=some i)(hz:i.zero=some z)
 (xm:i.size=size)(AJ:i.bytes=bytes)(BY:z.cells.size=size)(aP:0<size)
 (ao:Option Addr)(n:Nat)(tr:List Value)(mW:tr.length=n*size)(h0:ao=none->n=0)(holds:∀b,ao=some b->∀j u,tr[j]? =some u->w.cell? (b.add j)=some u)
 (a:Addr)(m c:Nat)(news:List Value)(hl:news.length=m*size)(Jf:∀j u,news[j]? =some u->w.cell? (a.add j)=some u)(h1:∀u∈news,u.oneCell'=true)
 (hm:0<m)(An:n+m<=maxLen)(AK:(n+m)*bytes<=140737488355328):
 ∃v' w',(Builtin.append_ #[t,t] ty #[.slice ao n n,.slice (some a) m c]).run P w=.ok v' w'/\w'.ownsRow w.heap.size e size v' (n+m) (tr++news)/\w.grownBy w' none:=by
 cases ao with
 |none=>
  have hn:=h0 rfl;subst hn;have ho:tr=[]:=Ax.1 (by rw[mW,Fh]);subst ho;obtain⟨v',w',hr,h2,h3,h4,h5⟩:=run_append_own_at (P:=P) w w.heap.size t ty e i z size bytes ht hi hz xm AJ BY aP (.slice none 0 0) 0 [] (A6 _ _ _ _) a m c news hl Jf h1 An AK (Ab _);exact⟨v',w',hr,h2,h3⟩
 |some b=>exact run_append_arg_grows w t ty e i z size bytes ht hi hz xm AJ BY aP b n n tr mW (holds b rfl) a m c news hl Jf (by omega) An AK
theorem aeR{ops:Array Oper}{o:Oper}{a:Act}{K:Act->World->Prop}{Q:Exit->Act->World->Prop}{E:Prop}
 (hg:o.guard=none)(s x:Operand)(t:TypeId)(eh:o.op=.call {callee:=.builtin .append,args:=#[s,x],argTypes:=#[t,t]})
 (e:TypeId)(i:TypeInfo)(z:Value)(size bytes:Nat)(ht:P.underlying t=some (.slice e))(hi:P.info? e=some i)(hz:i.zero=some z)(xm:i.size=size)(AJ:i.bytes=bytes)(BY:z.cells.size=size)(aP:0<size)
 (ao:Option Addr)(n:Nat)(tr:List Value)(hs:a.eval s=.slice ao n n)(mW:tr.length=n*size)(h0:ao=none->n=0)(holds:∀b,ao=some b->∀j u,tr[j]? =some u->w.cell? (b.add j)=some u)
 (ad:Addr)(m c:Nat)(news:List Value)(hx:a.eval x=.slice (some ad) m c)(hl:news.length=m*size)(Jf:∀j u,news[j]? =some u->w.cell? (ad.add j)=some u)(h1:∀u∈news,u.oneCell'=true)
 (hm:0<m)(An:n+m<=maxLen)(AK:(n+m)*bytes<=140737488355328)
 (hK:∀v' w',w'.ownsRow w.heap.size e size v' (n+m) (tr++news)->w.grownBy w' none->K (a.put o.dst v') w'):
 if Region.wanted o (yielded ops a.tmps)=true then Oper.wp P o a w K Q else E:=by
 have hw:Region.wanted o (yielded ops a.tmps)=true:=by simp[Region.wanted,hg]
 rw[if_pos hw];obtain⟨v',w',hr,h2,h3⟩:=anM (P:=P) w t o.type e i z size bytes ht hi hz xm AJ BY aP ao n tr mW h0 holds ad m c news hl Jf h1 hm An AK;unfold Oper.wp;simp[execOp,eh,resolve,invoke,builtin,hs,hx,hr,Result.andThen];exact hK _ _ h2 h3
structure J6(g:FG)(t:TG)(eb mp:Nat):Prop where
 em:eb≠mp
 ef:eb≠g.fb/\eb≠g.sb/\eb≠g.bb
 mf:mp≠g.fb/\mp≠g.sb/\mp≠g.bb
 mm:¬g.cM mp
 eB:¬t.B eb
 mB:¬t.B mp
 fB:¬t.B g.fb/\¬t.B g.sb/\¬t.B g.bb
structure OO(w:World)(g:FG)(m:MC)(t:TG)(mp:Nat)(mo bh:Int)(s:dt)(e:Ending)(w':World):Prop where
 ex:∃(q:Nat) (t':TG) (D':DataW Unit),e=.returned (.pointer (some ⟨q,0,none⟩))/\t.le t'/\iE w' m t'/\lH w' mp mo t'.T D'/\ql w' m t' s (jn m.cl bh) q/\∀i,t'.B i->t.B i\/w.heap.size<=i
 fA:jc w' g
 kept:aa (fun i=>i=mp\/i=g.fb\/i=g.sb\/i=g.bb) w w'
def Tk(p:Nat)(mt:Bool)(W:World):Prop:=W.cell? ⟨p,2,none⟩=some (.bool mt)/\0<=W.heap.size
def Tj(eb p:Nat)(fb:Nat)(ah:Int)(W:World):Prop:=W.cell? ⟨eb,1,none⟩=some (.pointer (some ⟨fb,0,none⟩))/\W.cell? ⟨p,1,none⟩=some (.int .i32 ah)
def Ti(eb:Nat)(st:Int)(W:World):Prop:=W.cell? ⟨eb,0,none⟩=some (.int .i64 st)/\0<=W.heap.size
theorem apA{g:FG}{eb mp p mn QV:Nat}{mo:Int}{TD nw:Value}{QU:Option Addr}{D:DataW Unit}(hg:g.Ok)(xd:m.ms=g.ms/\m.st=g.st)(bC:0<=g.st/\g.st<g.ms.length)(hb:0<=bh/\bh<=1114111)
 (hE:aq w eb (pM g.st (.pointer (some ⟨g.fb,0,none⟩)) (o_ g.ms) TD mo mp nw (.slice QU mn QV)) 159)(dJ:mn=jo s.aV+(if s.mt then 0 else 1))(gI:2<=mo/\mo<=1000000000)(hmp:mp<w.heap.size)
 (LU:lH w mp mo t.T D)(qy:iE w m t)(hs:t.T p=some s)(hI:jc w g)(hA:J6 g t eb mp):
 Calls prog 237 #[.pointer (some ⟨eb,0,none⟩),.pointer (some ⟨p,0,none⟩),.int .i32 bh] w (OO w g m t mp mo bh s):=by
 obtain⟨cs,as_,we,e1,⟨e2,e3⟩,_⟩:=(qy.st p s hs).ex;have AF:=qy.ok p s hs;rw[xd.1]at AF;have c0:w.cell? ⟨p,0,none⟩=some (.slice as_ s.aV.length cs):=e1.cell 0;have c1:w.cell? ⟨p,1,none⟩=some (.int .i32 s.ah):=e1.cell 1;have c2:w.cell? ⟨p,2,none⟩=some (.bool s.mt):=e1.cell 2;have d7:w.cell? ⟨eb,7,none⟩=some (.slice QU mn QV):=hE.cell 7;have jX:=e1.lt;have aiT:=hE.lt
 have yq:s.aV.length<=cs:=by
  rcases e2.2 with⟨h1,h2⟩|⟨_,cap,_,h1,_,_,h4,_⟩
  ·simp only[Bq]at h1;omega
  ·simp only[Bq]at h1;omega
 have h0n:as_=none->s.aV.length=0:=fun h=>by
  rcases e2.2 with⟨h1,h2⟩|⟨_,cap,_,h1,_⟩
  ·exact h2
  ·rw[h]at h1;cases h1
 have abu:as_=none->cs=0:=fun h=>by
  rcases e2.2 with⟨h1,h2⟩|⟨_,cap,_,h1,_⟩
  ·simp only[Bq]at h1;exact h1.2.2
  ·rw[h]at h1;cases h1
 have Vt:(eI s.aV).length=s.aV.length*2:=Ht _;have ajv:=trivial;obtain⟨tb,a2,O_,e4,hT,kx⟩:=pI.of e2;obtain⟨eA,eC⟩:as_=a2/\cs=O_:=by simpa using e4
 subst eA eC;clear e4;have cT:s.aV.length<=4001:=by have:=AF.1.bJ;have:=hg.bJ;omega
 have HE:=ab hE;have kJ:=ab AF;have HT:=ab hT;have DL:=ab kx;have zv:=ab e3;have q_:=ab qy;have wv:=ab LU;have sj:=ab hs;have HI:=ab hI;have HG:=ab hg;have HA:=ab hA;have lD:=ab e1;have me:=ab xd;clear hE AF hT kx e3 qy LU hs hI hg hA e1 e2 xd;go_in;go_upto_if 22 with fail
 go_cut [7] (fun v7 wx=>∃(lb lc:Nat) (la:Option Addr),v7=.slice la (dx g.st s).length lc/\Hid (pI wx lb la (dx g.st s))/\Hid (dx g.st s≠ []->¬(lb=g.fb\/lb=g.sb\/lb=g.bb))/\Hid (aa af w wx))
 case first=>
  cases iA:s.mt with
  |true=>
   have hL:dx g.st s=s.aV:=by unfold dx;rw[if_pos iA]
   have HL:=ab hL
   have H2:Hid (s.aV≠ []->¬(tb=g.fb\/tb=g.sb\/tb=g.bb)):=fun az hx=>by
    have hB:=zv.o tb (DL.o az);have hf:=HA.o.fB;rcases hx with hx|hx|hx<;>rw[hx]at hB
    ·exact hf.1 hB
    ·exact hf.2.1 hB
    ·exact hf.2.2 hB
   have HK:Hid (aa af w w):=aa.refl _ _;clear hL HE kJ DL zv q_ wv sj HI HG HA lD me;go_wp2_with fail;go_meet
   case rel=>exact⟨tb,cs,as_,by rw[HL.o],by rw[HL.o];exact HT,by rw[HL.o];exact H2,HK⟩
  |false=>
   have hL:dx g.st s=s.aV++[(g.st,(jo s.aV:Int))]:=by unfold dx;rw[if_neg (by rw[iA];simp)]
   have HL:=ab hL;have ajm:(mn:Int)-1=(jo s.aV:Int):=by rw[dJ,iA];simp
   obtain⟨nk,Ms⟩:∃nk:Int,nk=(jo s.aV:Int):=⟨_,rfl⟩
   rw[<-Ms]at ajm;have YQ:=ab Ms;have aqs:0<=nk/\nk<=5000:=by have:=kJ.o.1.TU;omega
   have aqP:wrap64 nk=nk:=by simp only[wrap64];omega
   have S4:Hid (∀W,aa af w W->Ti eb g.st W):=fun W k=>⟨(HE.o.kept k (fun hx=>hx)).cell 0,Ao _⟩
   have OC:Hid (∀W,aa af w W->∀b,as_=some b->∀j u,(eI s.aV)[j]? =some u->W.cell? (b.add j)=some u):=fun W k b hb j u hu=>by
    have az:s.aV≠ []:=by intro e;rw[e]at hu;simp[eI]at hu
    obtain⟨q1,q2⟩:=HT.o.at_ az;rw[q1]at hb
    cases hb;rw[Lb]
    have hj:=(Ag.1 hu).1;rw[Ht]at hj;have fy:=HT.o.cells (j/2) (by omega);have ox:=RQ (l:=s.aV) (k:=j/2) (by omega);refine(k.cell (p:=⟨tb,j,none⟩) q2 (fun hx=>hx)).trans ?_;rcases Eo j with h2|h2
    ·rw[show j/2*2=j by omega]at fy ox;rw[fy.1,<-ox.1,hu]
    ·rw[show j/2*2+1=j by omega]at fy ox;rw[fy.2,<-ox.2,hu]
   have N4:Hid (∀(W w7:World) (v':Value),aa af w W->w7.ownsRow W.heap.size 256 2 v' (s.aV.length+1) (eI s.aV++[.int .i64 g.st,.int .i64 nk])->W.grownBy w7 none->∃(lb lc:Nat) (la:Option Addr),v'=.slice la (dx g.st s).length lc/\Hid (pI w7 lb la (dx g.st s))/\Hid (dx g.st s≠ []->¬(lb=g.fb\/lb=g.sb\/lb=g.bb))/\Hid (aa af w w7)):=fun W w7 v' k ho dN=>by
    have k7:aa af w w7:=k.eQ dN (fun j hj=>by cases hj)
    have AW:w7.ownsRow W.heap.size 256 2 v' (dx g.st s).length (eI (dx g.st s)):=by
     rw[HL.o,Aj,XG,<-YQ.o];exact ho
    obtain⟨lb,la,lc,q1,q2,q3⟩:=pI.of AW;refine⟨lb,lc,la,q1,q2,fun az hx=>?_,k7⟩;have h1:=(dE AW (q3 az)).1;have h2:=k.size;obtain⟨_,_,_,s1,b1,hB,⟨hS,_⟩,⟨AA,_⟩⟩:=HI.o.ex;have f1:=hB.lt;have f2:=hS.lt;have f3:=AA.lt;omega
   obtain⟨i0,cS,dm,dp,c_⟩:=Bp Tryz.VY;have nH:as_=none->cs=0:=abu;clear hL HE kJ HT DL zv q_ wv sj HI HG HA lD me HL YQ Ms dJ ajv;generalize eI s.aV=tr at*;generalize s.aV.length=n at*;generalize dx g.st s=NL at*;go_wp2_with fail
   cases as_ with
   |none=>
    obtain rfl:=h0n rfl;obtain rfl:=nH rfl;refine gW (S:=Ti eb g.st) 14 (by kernel_rfl) rfl rfl rfl (by kernel_rfl) (by kernel_rfl) ?_;have cx:=S4.o w.drew (aa.refl _ _).drew;refine ai 0 29 (.slice none 0 0) cx ?_;refine ai 1 30 (.slice none 0 0) cx ?_;refine ai 2 31 (.int .i64 (0:Int)) cx ?_;refine ai 3 32 (.slice none 0 0) cx ?_;refine ai 4 33 (.int .i64 (0:Int)) cx ?_;simp only[Act.put,Aa,Ad,Ac];refine ai 5 34 (.slice none 0 0) cx ?_;refine ai 6 35 (.pointer (some ⟨eb,0,none⟩)) cx ?_;refine ai 7 36 (.pointer (some ⟨eb,0,none⟩)) cx ?_;refine ai 8 37 (.pointer (some ⟨eb,0,none⟩)) cx ?_;refine ai 9 38 (.int .i64 g.st) cx ?_;refine ai 10 39 (.int .i64 nk) cx ?_;refine ai 11 40 (.agg #[.int .i64 g.st,.int .i64 nk]) cx ?_;simp only[Act.put,Aa,Ad,Ac];refine bQ 12 fun K hK=>?_
    go_simp;have kA:aa af w (w.alloc (.cells #[.int .i64 g.st,.int .i64 nk] 256)).drew:=((aa.refl af w).alloc _).drew;refine hK.o _ _ (S4.o _ kA) (fun _=>?_);clear hK K;refine bQ 13 fun K hK=>?_
    refine aeR rfl (.tmp 34) (.tmp 41) 151 rfl 256 i0 _ 2 16 underlying151 cS dm dp c_ rfl (by decide) (none) 0 tr rfl (by omega) (by simp) (OC.o _ kA) ⟨w.heap.size,0,none⟩ 1 1 [.int .i64 g.st,.int .i64 nk] rfl rfl ?nw (RR _ _) (by decide) (by unfold maxLen;omega) (by omega) ?_
    case nw=>
     intro j v hv;rw[Lb];exact((aq.new w #[.int .i64 g.st,.int .i64 nk] 256).cell j).trans (by simpa using hv)
    intro v' w7 ho dN;obtain⟨jg,c',rfl⟩:=cK ho;have ax:=ab (N4.o _ _ _ kA ho dN);have k7:aa af w w7:=kA.eQ dN (fun j hj=>by cases hj);have vq:=S4.o _ k7;refine hK.o _ _ vq (fun _=>?_);clear hK K ho dN k7 N4 OC;refine At (by kernel_rfl) ?_ _;unfold eN;simp only[Ak,Ah,Ai];go_simp;go_wp2_with fail;go_meet
    case rel=>exact ax.o
   |some ad=>
    have hcI:¬((cs:Int)<(n:Int)):=(by omega);refine gW (S:=Ti eb g.st) 14 (by kernel_rfl) rfl rfl rfl (by kernel_rfl) (by kernel_rfl) ?_;have cx:=S4.o w.drew (aa.refl _ _).drew;refine ai 0 29 (.slice (some ad) n cs) cx ?_;refine ai 1 30 (.slice (some ad) n cs) cx ?_;refine ai 2 31 (.int .i64 (n:Int)) cx ?_;refine ai 3 32 (.slice (some ad) n cs) cx ?_;refine ai 4 33 (.int .i64 (n:Int)) cx ?_;simp only[Act.put,Aa,Ad,Ac];refine ai 5 34 (.slice (some ad) n n) cx ?_;refine ai 6 35 (.pointer (some ⟨eb,0,none⟩)) cx ?_;refine ai 7 36 (.pointer (some ⟨eb,0,none⟩)) cx ?_;refine ai 8 37 (.pointer (some ⟨eb,0,none⟩)) cx ?_;refine ai 9 38 (.int .i64 g.st) cx ?_;refine ai 10 39 (.int .i64 nk) cx ?_;refine ai 11 40 (.agg #[.int .i64 g.st,.int .i64 nk]) cx ?_;simp only[Act.put,Aa,Ad,Ac];refine bQ 12 fun K hK=>?_
    go_simp;have kA:aa af w (w.alloc (.cells #[.int .i64 g.st,.int .i64 nk] 256)).drew:=((aa.refl af w).alloc _).drew;refine hK.o _ _ (S4.o _ kA) (fun _=>?_);clear hK K;refine bQ 13 fun K hK=>?_
    refine aeR rfl (.tmp 34) (.tmp 41) 151 rfl 256 i0 _ 2 16 underlying151 cS dm dp c_ rfl (by decide) (some ad) n tr rfl (by omega) (by simp) (OC.o _ kA) ⟨w.heap.size,0,none⟩ 1 1 [.int .i64 g.st,.int .i64 nk] rfl rfl ?nw (RR _ _) (by decide) (by unfold maxLen;omega) (by omega) ?_
    case nw=>
     intro j v hv;rw[Lb];exact((aq.new w #[.int .i64 g.st,.int .i64 nk] 256).cell j).trans (by simpa using hv)
    intro v' w7 ho dN;obtain⟨jg,c',rfl⟩:=cK ho;have ax:=ab (N4.o _ _ _ kA ho dN);have k7:aa af w w7:=kA.eQ dN (fun j hj=>by cases hj);have vq:=S4.o _ k7;refine hK.o _ _ vq (fun _=>?_);clear hK K ho dN k7 N4 OC;refine At (by kernel_rfl) ?_ _;unfold eN;simp only[Ak,Ah,Ai];go_simp;go_wp2_with fail;go_meet
    case rel=>exact ax.o
 case rest=>
  obtain⟨lb,lc,la,rfl,Io,YM,HK⟩:=hcut;clear HT DL c0 c1 c2 d7 h0n yq abu Vt
  have S5:Hid (∀W,aa af wc W->Tj eb p g.fb s.ah W):=fun W k=>by
   have k2:=HK.o.trans k;exact⟨(HE.o.kept k2 (fun hx=>hx)).cell 1,(lD.o.kept k2 (fun hx=>hx)).cell 1⟩
  have hNt:Hid (∀q∈dx g.st s,0<=q.1/\q.1<(g.ms.length:Int)):=fun q hq=>by
   unfold dx at hq;split at hq
   ·exact kJ.o.1.st q hq
   ·rcases Al.1 hq with hq|hq
    ·exact kJ.o.1.st q hq
    ·simp only[Bo]at hq;rw[hq];exact bC
  have hNl:(dx g.st s).length<=5000:=by unfold dx;split<;>first|omega|(simp;omega)
  have F:Hid (∀W,aa af wc W->Calls prog 228 #[.pointer (some ⟨g.fb,0,none⟩),.slice la (dx g.st s).length lc,.slice none 0 0,.int .i32 s.ah,.int .i32 bh] W fun e w'=>∃nv,e=.returned (.tuple #[nv,.int .i64 ((aZ g.ms s.ah bh (dx g.st s)).2.getD 0),.bool (aZ g.ms s.ah bh (dx g.st s)).2.isSome])/\w'.ownsRow 0 256 2 nv (aZ g.ms s.ah bh (dx g.st s)).1.length (eI (aZ g.ms s.ah bh (dx g.st s)).1)/\jc w' g/\cH (dG g (.slice none 0 0)) (dG g nv) W w'/\(∀i,nv.ownBlock=some i->(i≠g.fb/\i≠g.sb/\i≠g.bb)/\¬g.cM i)/\(aZ g.ms s.ah bh (dx g.st s)).1.length<=g.ms.length):=fun W k=>
   abk HG.o (HI.o.new (HK.o.trans k)) hb (Io.o.kept k (fun _ hx=>hx)) (fun az hx=>by
    rcases hx with hx|hx
    ·exact YM.o az hx
    ·cases hx) hNt.o (by omega) (A6 _ _ _ _:W.ownsRow 0 256 2 (.slice none 0 0) 0 []) (fun i hi=>by cases hi) (by omega)
  go_wp2_with fail
  refine j9 (Ch (by kernel_rfl) (Cc (S:=Tj eb p g.fb s.ah) _ _ _ _ ?_));have ak:=S5.o wc.drew (aa.refl _ _).drew;refine ai 0 44 (.pointer (some ⟨eb,0,none⟩)) ak ?_;refine ai 1 45 (.pointer (some ⟨eb,0,none⟩)) ak ?_;refine ai 2 46 (.pointer (some ⟨eb,1,none⟩)) ak ?_;refine ai 3 47 (.pointer (some ⟨g.fb,0,none⟩)) ak ?_;refine ai 4 48 (.slice la (dx g.st s).length lc) ak ?_;refine ai 5 49 (.pointer (some ⟨p,0,none⟩)) ak ?_;refine ai 6 50 (.pointer (some ⟨p,0,none⟩)) ak ?_;refine ai 7 51 (.pointer (some ⟨p,1,none⟩)) ak ?_;refine ai 8 52 (.int .i32 s.ah) ak ?_;refine ai 9 53 (.int .i32 bh) ak ?_;simp only[Act.put,Aa,Ad,Ac];refine bQ 10 fun K hK=>?_
  go_simp;refine(F.o _ (aa.refl _ _).drew).mono ?_;rintro e w4 ⟨nv,rfl,q1,q2,q3,q4,q5⟩;dsimp only
  have K4:Hid (aa (fun i=>i=g.fb\/i=g.sb\/i=g.bb) w w4):=(((HK.o.drew).mono (fun _ hx=>hx.elim)).trans (q3.kept.mono (fun i hx=>by
   rcases hx with hx|hx
   ·exact hx
   ·cases hx)))
  have nM:Hid (∀i,nv.ownBlock=some i->w.heap.size<=i):=fun i hi=>by
   have h1:=HK.o.size;rcases q3.aj i (Or.inr hi)with(hx|hx)|hx
   ·have:=(q4 i hi).1;omega
   ·cases hx
   ·have h2:wc.heap.size<=i:=hx;omega
  have AY:t.B p:=(q_.o.st p s sj.o).in_
  have cx:Tj eb p g.fb s.ah w4:=by
   have hf:=HA.o.fB;have he:=HA.o.ef;refine⟨(HE.o.kept K4.o (fun hx=>by omega)).cell 1,(lD.o.kept K4.o (fun hx=>?_)).cell 1⟩;rcases hx with hx|hx|hx<;>rw[hx]at AY
   ·exact hf.1 AY
   ·exact hf.2.1 AY
   ·exact hf.2.2 AY
  refine hK.o _ _ cx (fun _=>?_);clear hK K F S5 Io YM ak;have Q1:=ab q1;have Q2:=ab q2;have Q5:=ab q5;have Q4:=ab q4;obtain⟨fQ,c3,kX⟩:=cK q1;obtain⟨NX,Uy⟩:∃NX,NX=aZ g.ms s.ah bh (dx g.st s):=⟨_,rfl⟩
  rw[<-Uy]at Q1 Q5 kX⊢;have nX:=ab Uy;subst kX;clear q1 q2 q3 q4 q5 Uy;refine ai 11 43 (.tuple #[.slice fQ NX.1.length c3,.int .i64 (NX.2.getD 0),.bool NX.2.isSome]) cx ?_;refine ai 12 55 (.slice fQ NX.1.length c3) cx ?_;refine ai 13 56 (.int .i64 (NX.2.getD 0)) cx ?_;refine ai 14 57 (.bool NX.2.isSome) cx ?_;refine ai 15 9 (.slice fQ NX.1.length c3) cx ?_;refine ai 16 10 (.int .i64 (NX.2.getD 0)) cx ?_;refine ai 17 11 (.bool NX.2.isSome) cx ?_;simp only[Act.put,Aa,Ad,Ac];refine At (by kernel_rfl) ?_ _;refine jy ?_;clear cx;obtain⟨d2,AN⟩:∃d2,d2=NX.2.getD (-1):=⟨_,rfl⟩
  have hdd:(NX.2.isSome=false->d2= -1)/\(NX.2.isSome=true->d2=NX.2.getD 0):=by
   rw[AN]
   cases NX.2 with
   |none=>exact⟨fun _=>rfl,fun h=>(by cases h)⟩
   |some d=>exact⟨fun h=>(by cases h),fun _=>rfl⟩
  have So:=ab AN;clear AN;generalize FY:NX.2.getD 0=d0 at*;generalize sP:NX.2.isSome=d1 at*;have Ic:=ab sP;have Sq:=ab hdd;clear FY sP hdd;go_upto_if 59 with fail
  go_cut [10] (fun v10 wx=>v10=.int .i64 d2/\wx=w4)
  case first=>
   clear K4 nM Q1 Q2 Q5 nX q_ wv HI HG HA HE lD kJ sj me zv Ic So
   cases d1
   ·have e:=Sq.o.1 rfl;subst e;go_wp2_with fail;go_meet
    case rel=>exact⟨rfl,rfl⟩
   ·have e:=Sq.o.2 rfl;subst e;go_wp2_with fail;go_meet
    case rel=>exact⟨rfl,rfl⟩
  case rest=>
   obtain⟨rfl,Jn⟩:=hcut;subst Jn;have lQ:NX.1.length<=10000:=by have:=Q5.o;have:=HG.o.bJ;omega
   have F2:=ab (anp Q1.o lQ);go_wp2_with fail;refine(F2.o).mono ?_;rintro e w5 ⟨gQ,rfl,r1,r2,r3⟩;have K5:Hid (aa (fun i=>i=g.fb\/i=g.sb\/i=g.bb) w w5):=K4.o.bZ r3 (fun i hi hx=>by have:=nM.o i hx;omega)
   have hBf:∀i,(i=g.fb\/i=g.sb\/i=g.bb)->¬t.B i:=fun i hx=>by
    have hf:=HA.o.fB;rcases hx with rfl|rfl|rfl
    ·exact hf.1
    ·exact hf.2.1
    ·exact hf.2.2
   have St:=ab (HE.o.kept K5.o (fun hx=>by have:=HA.o.ef;omega));have YO:=ab (wv.o.kept K5.o (fun hx=>by have:=HA.o.mf;omega));have xY:=ab (q_.o.kept K5.o hBf);have uI:=ab (Q2.o.kept r3 (fun i hx=>⟨fun hy=>by have:=(Q4.o i hx).1;omega,(Q4.o i hx).2⟩));have xX:Hid (∀W,aa af w5 W->Tk p s.mt W):=(fun W k=>⟨((lD.o.kept K5.o (fun hx=>hBf p hx AY)).kept k (fun hx=>hx)).cell 2,Ao _⟩);have R1:=ab r1;have R2:=ab r2;have ajH:=cK r2;have ab6:=K4.o.size;have QA:=K5.o.size;clear F2 K4 Q1 Q2 r1 r2 r3 lD HI wv q_ HE;obtain⟨s1,cU⟩:∃s1,s1=(m.o bh s).1:=⟨_,rfl⟩
   have f1:s1.aV=(fM NX.1).1:=by rw[cU];unfold MC.o mC;rw[me.o.1,me.o.2,<-nX.o]
   have f2:s1.ah=jL g.ms bh:=by rw[cU];unfold MC.o mC;rw[me.o.1]
   have f3:s1.mt=(s.mt||d1):=by rw[cU,<-Ic.o];unfold MC.o mC;rw[me.o.1,me.o.2,<-nX.o]
   have f4:(m.o bh s).2.1=(fM NX.1).2:=by unfold MC.o mC;rw[me.o.1,me.o.2,<-nX.o]
   have f5:(m.o bh s).2.2=NX.2:=by unfold MC.o mC;rw[me.o.1,me.o.2,<-nX.o]
   have f6:s1.aV.length=NX.1.length:=by rw[f1];exact WY _ _
   have Jh:s1.Ok g.ms:=by
    have hq:=me.o;have:=WC HG.o.fL (s:=s) (st:=g.st) (j7:=jL g.ms bh) (bh:=bh) kJ.o.1 (RJ HG.o.fL _ _ _) (by rw[<-nX.o];exact Q5.o);rw[cU];unfold MC.o;rw[hq.1,hq.2];exact this.1
   have wU:s1.ah= -1\/s1.ah=119\/s1.ah=32:=by rw[f2];exact Xp _ _
   have FS:Hid (∀W,aa af w5 W->Calls prog 102 #[.pointer (some ⟨eb,0,none⟩),.int .i32 bh] W fun e w'=>e=.returned (.int .i32 (jL g.ms bh))/\w'=W):=fun W k=>acs (St.o.kept k (fun hx=>hx))
   have FK:Hid (∀W,aa af w5 W->Calls prog 101 #[.pointer (some ⟨eb,0,none⟩),.agg #[.slice fQ NX.1.length c3,.int .i32 (jL g.ms bh),.bool (s.mt||d1),.slice none 0 0]] W (x9 W mp mo t.T s1 (.slice fQ NX.1.length c3))):=fun W k=>by
    have hr:=bY R1.o k (fun _ _ hx=>hx);rw[<-f1,<-f6]at hr;obtain⟨tb5,a5,c5,q1,q2,_⟩:=pI.of hr;obtain⟨eA,eC⟩:fQ=a5/\c3=c5:=by simpa using q1
    subst eA eC;have:=acn (ms:=g.ms) (s:=s1) (c:=c3) (St.o.kept k (fun hx=>hx)) (YO.o.kept k (fun hx=>hx)) (fun e=>HA.o.em e.symm) (by have:=k.size;omega) gI (by have:=xY.o.ok;rw[me.o.1]at this;exact this) ((xY.o.kept k (fun _ hx=>hx.elim)).fresh (Ab _)) HG.o.bJ Jh wU q2;rw[f6,f2,f3]at this;exact this
   have X3:Hid (∀(W w6:World) (p6:Nat),aa af w5 W->x9 W mp mo t.T s1 (.slice fQ NX.1.length c3) (.returned (.pointer (some ⟨p6,0,none⟩))) w6->OO w g m t mp mo bh s (.returned (.pointer (some ⟨w6.heap.size,0,none⟩))) (w6.alloc (.cells #[.pointer (some ⟨p6,0,none⟩),gQ,.int .i64 d2] 317))):=fun W w6 p6 k rI=>by
    obtain⟨p6',T',D',he,UB,tS,Vv⟩:=rI.ex;have Qv:p6=p6':=(by simpa using he);subst Qv;have tJ:aa (fun i=>i=mp) w5 w6:=(k.mono (fun _ hx=>hx.elim)).trans rI.kept;have ka:aa af w6 (w6.alloc (.cells #[.pointer (some ⟨p6,0,none⟩),gQ,.int .i64 d2] 317)):=(aa.refl af w6).alloc _;have ajN:=tJ.size;have hr6:w6.ownsRow 0 256 2 (.slice fQ NX.1.length c3) NX.1.length (eI (fM NX.1).1):=bY R1.o tJ (fun i hi hx=>by have:=nM.o i hi;omega);have hh6:w6.ownsRow 0 3 1 gQ (fM NX.1).2.length (cY (fM NX.1).2):=CN (bY R2.o tJ (fun i hi hx=>by have h1:=(dE R2.o hi).1;have h2:=ab6;omega)) (Ao _);have hT6:iE w6 m t:=xY.o.kept tJ (fun i hx=>by rw[hx];exact HA.o.mB);have hn6:t.T W.heap.size=none:=(xY.o.kept k (fun _ hx=>hx.elim)).fresh (Ab _)
    have DV:∃t1:TG,t.le t1/\iE w6 m t1/\t1.T=T'/\∀i,t1.B i->t.B i\/w.heap.size<=i:=by
     rcases Vv with h1|⟨h1,h2,h3⟩
     ·exact⟨t,TG.le.refl t,hT6,h1.symm,fun i hi=>Or.inl hi⟩
     ·have GD:w5.heap.size<=p6:=by rw[h1];exact k.size
      refine⟨t.add p6 s1 (.slice fQ s1.aV.length c3),TG.Tl (by rw[h1];exact hn6),iE.add xY.o tJ (fun i hx=>by rw[hx];exact HA.o.mB) GD (by rw[f6];exact h3) (by rw[f6,f1];exact hr6) ⟨by rw[me.o.1];exact Jh,wU⟩,by rw[h2];rfl,fun i hi=>?_⟩;rcases hi with hi|hi|hi
      ·exact Or.inl hi
      ·right;omega
      ·right;rw[f6]at hi;exact nM.o i hi
    obtain⟨t1,g1,g2,g3,g4⟩:=DV;have vz:=aq.new w6 #[.pointer (some ⟨p6,0,none⟩),gQ,.int .i64 d2] 317;have g5:=t1.ait w6.heap.size gQ
    have g6:iE (w6.alloc (.cells #[.pointer (some ⟨p6,0,none⟩),gQ,.int .i64 d2] 317)) m (t1.grow w6.heap.size gQ):=by
     refine⟨fun b r hb=>(g2.st b r hb).eG ka (fun _ hx=>hx.elim) g5,fun i hi=>?_,g2.ok⟩;rcases hi with hi|hi|hi
     ·exact As (g2.lt i hi) ka.size
     ·rw[hi];exact vz.lt
     ·exact As (dE hh6 hi).2 ka.size
    refine⟨⟨w6.heap.size,t1.grow w6.heap.size gQ,D',rfl,g1.trans g5,g6,?_,⟨p6,gQ,bh,⟨hb,rfl⟩,⟨?_,Or.inr (Or.inl rfl)⟩,?_,?_,fun i hi=>Or.inr (Or.inr hi)⟩,fun i hi=>?_⟩,?_,?_⟩
    ·have:=tS.kept ka (fun hx=>hx);rw[<-g3]at this;exact this
    ·rw[f5,<-So.o];exact vz
    ·show t1.T p6=_
     rw[g3,UB,cU]
    ·rw[f4];exact bY hh6 ka (fun _ _ hx=>hx)
    ·rcases hi with hi|hi|hi
     ·exact g4 i hi
     ·right;omega
     ·right;have h1:=(dE R2.o hi).1;have h2:=ab6;omega
    ·exact(uI.o.kept tJ (fun i hx=>by rw[hx];exact⟨fun hy=>by have:=HA.o.mf;omega,HA.o.mm⟩)).new ka
    ·exact((K5.o.mono (fun i hx=>Or.inr hx)).trans (tJ.mono (fun i hx=>Or.inl hx))).trans (ka.mono (fun _ hx=>hx.elim))
   have SK:Hid (∀W w6,aa af w5 W->aa (fun i=>i=mp) W w6->Tk p s.mt w6):=fun W w6 k1 k2=>by
    have h1:=(xX.o W k1).1;exact⟨(k2.cell (p:=⟨p,2,none⟩) (Bk _ _ h1) (fun e=>HA.o.mB (by rw[<-e];exact AY))).trans h1,Ao _⟩
   clear St YO xY uI R1 R2 K5;generalize ajp:s.mt=QW at*;generalize jL g.ms bh=sa at*;obtain⟨ah5,ch5,QF⟩:∃a c,gQ=Value.slice a (fM NX.1).2.length c:=ajH
   generalize(fM NX.1).2.length=nh at QF
   subst QF;generalize NX.1.length=nn at*;clear f1 f2 f3 f4 f5 f6 Jh wU cU nX Ic So Sq Q4 Q5 nM HG HA kJ sj me zv HK ajp lQ;go_wp2_with fail;refine j9 (gW (S:=Tk p QW) 14 (by kernel_rfl) rfl rfl rfl (by kernel_rfl) (by kernel_rfl) ?_);have ak:=xX.o w5.drew (aa.refl _ _).drew;refine ai 0 62 (.pointer (some ⟨eb,0,none⟩)) ak ?_;refine ai 1 63 (.slice fQ nn c3) ak ?_;refine ai 2 64 (.pointer (some ⟨eb,0,none⟩)) ak ?_;refine ai 3 65 (.int .i32 bh) ak ?_;refine ai 5 67 (.pointer (some ⟨p,0,none⟩)) ak ?_;refine ai 6 68 (.pointer (some ⟨p,0,none⟩)) ak ?_;refine ai 7 69 (.pointer (some ⟨p,2,none⟩)) ak ?_;refine ai 8 70 (.bool QW) ak ?_;simp only[Act.put,Aa,Ad,Ac];refine bQ 4 fun K hK=>?_
   go_simp;refine(FS.o _ (aa.refl _ _).drew).mono ?_;rintro e w6 ⟨rfl,rfl⟩;dsimp only;refine hK.o _ _ ak (fun _=>?_);clear hK K FS;have X4:Hid (∀b,b=(QW||d1)->∀W,aa af w5 W->Calls prog 101 #[.pointer (some ⟨eb,0,none⟩),.agg #[.slice fQ nn c3,.int .i32 sa,.bool b,.slice none 0 0]] W (x9 W mp mo t.T s1 (.slice fQ nn c3))):=fun b hb=>by subst hb;exact FK.o
   clear FK
   cases QW
   ·refine ai 9 71 (.bool false) ak ?_;simp only[Act.put,Aa,Ad,Ac];refine lg 10 72 (.bool d1) ak ?_;simp only[Act.put,Aa,Ad,Ac];refine ai 11 73 (.bool d1) ak ?_;simp only[Act.put,Aa,Ad,Ac];refine ai 12 74 (.agg #[.slice fQ nn c3,.int .i32 sa,.bool d1,.slice none 0 0]) ak ?_;simp only[Act.put,Aa,Ad,Ac];refine bQ 13 fun K hK=>?_
    go_simp;refine(X4.o d1 (by simp) _ (aa.refl _ _).drew).mono ?_;intro e w6 rI;obtain⟨p6,T',D',he,_⟩:=rI.ex;subst he;dsimp only;refine hK.o _ _ (SK.o _ _ (aa.refl _ _).drew rI.kept) (fun _=>?_);have ax:=ab (X3.o _ _ p6 (aa.refl _ _).drew rI);clear hK K rI;refine At (by kernel_rfl) ?_ _;unfold eN;simp only[Ak,Ah,Ai];go_simp;refine jy ?_;go_wp2_with fail;go_ret;exact ax.o
   ·refine ai 9 71 (.bool true) ak ?_;simp only[Act.put,Aa,Ad,Ac];refine lg 10 72 undef ak ?_;simp only[Act.put,Aa,Ad,Ac];refine ai 11 73 (.bool true) ak ?_;simp only[Act.put,Aa,Ad,Ac];refine ai 12 74 (.agg #[.slice fQ nn c3,.int .i32 sa,.bool true,.slice none 0 0]) ak ?_;simp only[Act.put,Aa,Ad,Ac];refine bQ 13 fun K hK=>?_
    go_simp;refine(X4.o true (by simp) _ (aa.refl _ _).drew).mono ?_;intro e w6 rI;obtain⟨p6,T',D',he,_⟩:=rI.ex;subst he;dsimp only;refine hK.o _ _ (SK.o _ _ (aa.refl _ _).drew rI.kept) (fun _=>?_);have ax:=ab (X3.o _ _ p6 (aa.refl _ _).drew rI);clear hK K rI;refine At (by kernel_rfl) ?_ _;unfold eN;simp only[Ak,Ah,Ai];go_simp;refine jy ?_;go_wp2_with fail;go_ret;exact ax.o
theorem Rt(l:List bG):gV (fun x=>x) l=l:=by
 unfold gV;exact(Fz (fun t _=>rfl)).trans (List.map_id l)
theorem aou{ms:List MS}{ah qo:Int}(h:DW ms ah ah bh qo)(l:List bG):aZ ms ah qo l=aZ ms ah bh l:=by
 have:=Xs h (fun x=>x) l;rw[Rt,Rt]at this;rw[this];refine Prod.ext rfl ?_;show(aZ ms ah bh l).2.map (fun x=>x)=_
 cases(aZ ms ah bh l).2<;>rfl
theorem MC.y8(h:tA m.ms m.cl){r r':Int}(hr:0<=r/\r<=1114111)(kD:0<=r'/\r'<=1114111)(hn:jn m.cl r=jn m.cl r')(s:dt):m.o r' s=m.o r s:=by
 unfold MC.o mC;rw[aou (h.y8 hr kD hn s.ah),h.j7 hr kD hn]
theorem ql.at{q:Nat}(h:ql w m t s j q)(hc:tA m.ms m.cl)(hb:0<=bh/\bh<=1114111)(hj:jn m.cl bh=j):
 ∃(tq:Nat) (mv:Value),aq w q #[.pointer (some ⟨tq,0,none⟩),mv,.int .i64 ((m.o bh s).2.2.getD (-1))] 317/\t.T tq=some (m.o bh s).1/\w.ownsRow 0 3 1 mv (m.o bh s).2.1.length (cY (m.o bh s).2.1)/\∀i,mv.ownBlock=some i->t.B i:=by
 obtain⟨tq,mv,b0,⟨h1,h2⟩,⟨h3,_⟩,h4,h5,h6⟩:=h.ex;have e:=MC.y8 hc h1 hb (h2.trans hj.symm) s;rw[e];exact⟨tq,mv,h3,h4,h5,h6⟩
theorem akv(w:World)(a:Option Addr)(n c:Nat)(hn:n<=100000000):Calls prog 236 #[.slice a n c] w fun e w'=>e=.returned (.int .i64 ((n+1:Nat):Int))/\aa af w w':=by
 go_in
 go_wp2_with fail
 go_ret
 exact⟨rfl,aa.refl _ _⟩
theorem akU(n:Nat):madeCells (Value.pointer none).cells n=((List.replicate n (none:Option Nat)).map fun q=>Value.pointer (q.map fun q=>(⟨q,0,none⟩:Addr))).toArray:=by
 unfold madeCells;have e:(Value.pointer none).cells=#[Value.pointer none]:=rfl;rw[e];refine Array.ext (by simp) fun i h1 h2=>?_
 simp[Gj]
theorem Tryz.aj5:(prog.info? 314).map (fun i=>(i.zero,i.size,i.bytes))=some (some (.pointer none),1,8):=by kernel_rfl
open Go.Sort
def iD(w:World)(g off sz:Nat)(d:Array Int):Prop:=∃aM:Array Value,w.heap[g]? =some (.cells aM 21 (0,0))/\aM.size=sz/\off+d.size<=sz/\∀t,t<d.size->aM[off+t]? =some (.int .i32 d[t]!)
theorem iD.iR(h:iD w g off sz d):(∀t,t<d.size->w.cell? ⟨g,off+t,none⟩=some (.int .i32 (d[t]!)))/\∀t,t<d.size->w.frozen? ⟨g,off+t,none⟩=false:=by
 obtain⟨aM,h1,h2,h3,h4⟩:=h;refine⟨fun t ht=>?_,fun t ht=>by simp[World.frozen?,h1]⟩;simp only[World.cell?,h1];simp[h4 t ht]
theorem iD.lt(h:iD w g off sz d):g<w.heap.size:=by
 obtain⟨aM,h1,_⟩:=h;exact(Am.1 h1).1
theorem iD.ok(h:iD w g off sz d):oW w g off d.size sz:=by
 obtain⟨aM,h1,h2,h3,h4⟩:=h;exact⟨aM,h1,h2,h3,fun t ht=>⟨_,h4 t ht⟩⟩
theorem aa1(d:Array Int)(t:Nat)(r:Int)(h:t<d.size):(d.setIfInBounds t r)[t]! =r:=by simp[h]
theorem aa0(d:Array Int)(t s:Nat)(r:Int)(h:t≠s):(d.setIfInBounds t r)[s]! =d[s]! :=by
 simp only[getElem!_def];rw[C4 h]
theorem iD.put(h:iD w g off sz d){t:Nat}(ht:t<d.size)(r:Int):iD (w.setCell ⟨g,off+t,none⟩ (.int .i32 r)) g off sz (d.setIfInBounds t r):=by
 obtain⟨aM,h1,h2,h3,h4⟩:=h;refine⟨aM.setIfInBounds (off+t) (.int .i32 r),?_,by simpa using h2,by simpa using h3,fun s hs=>?_⟩
 ·simp only[World.setCell,Ek];simp[h1]
 ·simp only[Array.size_setIfInBounds]at hs;by_cases e:s=t
  ·subst e;rw[Da (by omega),aa1 _ _ _ hs]
  ·rw[C4 (by omega),aa0 _ _ _ _ (fun x=>e x.symm)];exact h4 s hs
theorem iD.kept{w':World}{K:Nat->Prop}(h:iD w g off sz d)(k:aa K w w')(hg:¬K g):iD w' g off sz d:=by
 have hl:=h.lt;obtain⟨aM,h1,h2⟩:=h;exact⟨aM,(k.block g hl hg).trans h1,h2⟩
structure cu(w:World)(g off sz:Nat)(w':World)(d:Array Int):Prop where
 row:iD w' g off sz d
 kept:aa (fun i=>i=g) w w'
theorem cu.refl(h:iD w g off sz d):cu w g off sz w d:=⟨h,aa.refl _ _⟩
theorem cu.trans{w2:World}{d':Array Int}(h:cu w g off sz w1 d)(k:cu w1 g off sz w2 d'):cu w g off sz w2 d':=⟨k.row,h.kept.trans k.kept⟩
theorem cu.drewN(h:cu w g off sz w1 d)(q:Nat):cu w g off sz (w1.drewN q) d:=⟨h.row,h.kept.drewN q⟩
theorem cu.drew(h:cu w g off sz w1 d):cu w g off sz w1.drew d:=⟨h.row,h.kept.drew⟩
theorem cu.put(h:cu w g off sz w1 d){t:Nat}(ht:t<d.size)(r:Int):cu w g off sz (w1.setCell ⟨g,off+t,none⟩ (.int .i32 r)) (d.setIfInBounds t r):=⟨h.row.put ht r,h.kept.setCell (p:=⟨g,off+t,none⟩) (Or.inl rfl) _⟩
theorem cu.swap(h:cu w g off sz w1 d)(hi:i<d.size)(hj:j<d.size):cu w g off sz ((w1.setCell ⟨g,off+i,none⟩ (.int .i32 d[j]!)).setCell ⟨g,off+j,none⟩ (.int .i32 d[i]!)) (swp d i j):=
 (h.put hi _).put (by simpa using hj) _
theorem iZ(x y:Int):ltInt x y=decide (x<y):=rfl
theorem aj8(h:insInner ltInt a j c2=insInner ltInt a i c)(Mj:a<j)(hl:c2[j]! <c2[j-1]!):insInner ltInt a (j-1) (swp c2 j (j-1))=insInner ltInt a i c:=by
 obtain⟨k,rfl⟩:∃k,j=k+1:=⟨j-1,by omega⟩
 rw[<-h];conv=>rhs;unfold insInner
 rw[Cv]at hl⊢;rw[if_pos (by simp[iZ,hl];omega)]
theorem aka(h:insInner ltInt a j c2=insInner ltInt a i c)(hl:¬c2[j]! <c2[j-1]!):c2=insInner ltInt a i c:=by
 rw[<-h]
 cases j with
 |zero=>rfl
 |succ k=>
  conv=>rhs;unfold insInner
  rw[Cv]at hl;rw[if_neg (by simp[iZ];omega)]
theorem aj_(h:insInner ltInt a j c2=insInner ltInt a i c)(Mj:j<=a):c2=insInner ltInt a i c:=by
 rw[<-h]
 cases j with
 |zero=>rfl
 |succ k=>
  conv=>rhs;unfold insInner
  rw[if_neg (by simp;omega)]
theorem aj9(hd:d.size=n)(hR:iD w g off sz d)(lr:a<=b)(hb:b<=n)(hn:n<4611686018427387904):
 Calls prog 149 #[.slice (some ⟨g,off,none⟩) n cap,.int .i64 (a:Int),.int .i64 (b:Int)] w fun e w'=>e=.returned (.tuple #[])/\cu w g off sz w' (insertionSort ltInt d a b):=by
 go_enter func149,ntmps149
 go_wp2_with fail
 go_loopw [6] (fun vi wr=>∃(i:Nat) (c:Array Int),vi=.int .i64 (i:Int)/\a<i/\i<=b+1/\Hid (c.size=n)/\Hid (insOuter ltInt a b i c=insertionSort ltInt d a b)/\Hid (cu w g off sz wr c)) (fun vi _=>b+1-(dM vi).toNat)
 case atStart=>exact⟨a+1,d,by go_num,by omega,by omega,hd,rfl,cu.refl hR⟩
 case round=>
  obtain⟨i,c,rfl,hai,dQ,hc,HE,HW⟩:=hrel;clear hR hd;go_wp2_with fail
  ·have aw:i<b:=by assumption
   have jd:Hid (insOuter ltInt a b (i+1) (insInner ltInt a i c)=insertionSort ltInt d a b):=by
    have:=HE.o;unfold insOuter at this;rw[if_pos aw]at this;exact this
   go_loopw [7] (fun vj wr2=>∃(j:Nat) (c2:Array Int),vj=.int .i64 (j:Int)/\a<=j/\j<=i/\Hid (c2.size=n)/\Hid (insInner ltInt a j c2=insInner ltInt a i c)/\Hid (cu w g off sz wr2 c2)) (fun vj _=>(dM vj).toNat)
   case atStart=>exact⟨i,c,rfl,by omega,Ab _,hc,rfl,HW⟩
   case round=>
    obtain⟨j,c2,rfl,haj,hji,ji,HI,d_⟩:=hrel;clear HW;obtain⟨bj,bP⟩:=d_.o.row.iR;rw[ji.o]at bj bP;go_wp2_with fail;by_cases Mj:a<j
    ·go_quiet (first|(go_at_call 155;refine Ar (jz _ _ _)))
     go_wp2_with fail
     ·go_region
      all_goals go_wp2_with fail
      go_roundw
      case rel=>
       refine⟨j-1,swp c2 j (j-1),by congr 1;omega,by omega,by omega,?_,aj8 HI.o Mj (by assumption),?_⟩
       ·exact(size_swp _ _ _).trans ji.o
       ·have:=ji.o;exact(d_.o.drewN _).swap (by omega) (by omega)
      case measure=>simp[dM];omega
     ·go_roundw
      case rel=>
       have e:=aka HI.o (by omega);exact⟨i+1,c2,by go_num,by omega,by omega,ji,by rw[e];exact jd,d_.o.drewN _⟩
      case measure=>simp[dM];omega
    ·go_quiet (first|(go_at_call 155;refine Ar (jz _ _ _)))
     go_wp2_with fail
     go_roundw
     case rel=>
      have e:=aj_ HI.o (by omega);exact⟨i+1,c2,by go_num,by omega,by omega,ji,by rw[e];exact jd,d_.o.drewN _⟩
     case measure=>simp[dM];omega
  ·have aw:¬i<b:=(by assumption);go_end0
   have e:c=insertionSort ltInt d a b:=by
    have:=HE.o;unfold insOuter at this;rw[if_neg aw]at this;exact this
   rw[<-e];exact⟨rfl,HW.o⟩
def Zq(w:World)(g off sz a b:Nat)(d:Array Int)(w':World):Prop:=∃c:Array Int,PermIn a b d c/\cu w g off sz w' c
theorem anG(hd:d.size=n)(hR:iD w g off sz d)(lr:a<b)(hb:b<=n)(hn:n<4611686018427387904):
 Calls prog 153 #[.slice (some ⟨g,off,none⟩) n cap,.int .i64 (a:Int),.int .i64 (b:Int)] w fun e w'=>e=.returned (.tuple #[])/\Zq w g off sz a b d w':=by
 go_enter func153,ntmps153
 go_wp2_with fail
 go_loopw [6,7] (fun vi vj wr=>∃(i j:Nat) (c:Array Int),vi=.int .i64 (i:Int)/\vj=.int .i64 (j:Int)/\a<=i/\j<b/\i<=b/\Hid (c.size=n)/\Hid (PermIn a b d c)/\Hid (cu w g off sz wr c)) (fun _ vj _=>(dM vj).toNat)
 case atStart=>exact⟨a,b-1,d,rfl,by congr 1;omega,by omega,by omega,by omega,hd,permIn_refl _ _ _,cu.refl hR⟩
 case round=>
  obtain⟨i,j,c,rfl,rfl,hi,hj,dQ,hc,HP,HW⟩:=hrel;clear hR hd;obtain⟨bj,bP⟩:=HW.o.row.iR;rw[hc.o]at bj bP;by_cases cy:i<j
  ·have hz:(i:Int)<(j:Int):=(by omega);have dR:i<n:=(by omega);have vC:j<n:=(by omega);go_wp2_with fail;go_region;all_goals go_wp2_with fail
   go_roundw
   case rel=>
    refine⟨i+1,j-1,swp c i j,by go_num,by congr 1;omega,by omega,by omega,by omega,(size_swp _ _ _).trans hc.o,?_,?_⟩
    ·have:=hc.o;exact permIn_trans _ _ _ _ _ HP.o (swp_permIn _ _ _ _ _ hi (by omega) (by omega) hj (by omega))
    ·have:=hc.o;exact(HW.o.drew).swap (by omega) (by omega)
   case measure=>simp[dM];omega
  ·have hz:¬((i:Int)<(j:Int)):=(by omega);go_wp2_with fail;go_end0;exact⟨rfl,c,HP.o,HW.o⟩
