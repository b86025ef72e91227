/- Package marks -/
import Derived.Test.YtpdnofhackjfdaaGreatDoorP37
set_option linter.all false
set_option maxRecDepth 100000
set_option maxHeartbeats 8000000
namespace Go.Proofs.YtpdnofhackjfdaaGreatDoor
open Go.Proofs.Tryz
open Go.RowKit Go.Sort
variable {g:FG} {cl l rs ia:List Int} {ms:List MS} {m:MC} {s:dq} {base c cb k p pb:Nat} {a:Option Addr} {S:bD} {t:TG} {v:Value} {w:World}
structure zo(w:World)(a:Option Addr)(cb:Nat)(cl:List Int):Prop where
 at_:cl≠ []->a=some ⟨cb,0,none⟩/\cb<w.heap.size
 cells:∀i,(h:i<cl.length)->w.cell? ⟨cb,i,none⟩=some (.int .i32 cl[i])
theorem zo.kept{w':World}{K:Nat->Prop}(h:zo w a cb cl)(k:aa K w w')(hK:cl≠ []->¬K cb):zo w' a cb cl:=
 ⟨fun hl=>⟨(h.at_ hl).1,Ar (h.at_ hl).2 k.size⟩,fun i hi=>by
   have az:cl≠ []:=by intro e;subst e;simp at hi
   exact(k.cell (p:=⟨cb,i,none⟩) (h.at_ az).2 (hK az)).trans (h.cells i hi)⟩
def jM(ms:List MS)(rs:List Int)(k:Nat):Prop:=∀(u:Nat) (m:MS),u<k->ms[u]? =some m->(m.kind=1->∃S,(∀c,0<=c->c<=1114111->bU S c=fP m.sp m.fo m.nt c)/\uE rs S)/\(m.kind=2->∃S,(∀c,0<=c->c<=1114111->bU S c=kD c)/\uE rs S)
theorem jM.zero(ms:List MS):jM ms [] 0:=fun u m h=>by omega
theorem uE.mono{a b:List Int}(h:uE a S)(hs:∀x∈a,x∈b):uE b S:=fun s qF=>⟨hs _ (h s qF).1,hs _ (h s qF).2⟩
theorem aar(S:bD):uE (rl S) S:=fun s hs=>by
 unfold rl;exact⟨Er.2 ⟨s,hs,by simp⟩,Er.2 ⟨s,hs,by simp⟩⟩
theorem jM.eV{qR:List Int}(h:jM ms rs k)(hs:∀x∈rs,x∈qR):jM ms qR k:=fun u m hu hm=>
 ⟨fun e=>by obtain⟨S,h1,h2⟩:=(h u m hu hm).1 e;exact⟨S,h1,h2.mono hs⟩,fun e=>by obtain⟨S,h1,h2⟩:=(h u m hu hm).2 e;exact⟨S,h1,h2.mono hs⟩⟩
theorem jM.eQ(h:jM ms rs k)(hk:k<ms.length)(h1:ms[k].kind=1->∃S,(∀c,0<=c->c<=1114111->bU S c=fP ms[k].sp ms[k].fo ms[k].nt c)/\uE rs S)(h2:ms[k].kind=2->∃S,(∀c,0<=c->c<=1114111->bU S c=kD c)/\uE rs S):jM ms rs (k+1):=fun u m hu hm=>by
 by_cases e:u=k
 ·subst e;rw[Ae hk]at hm
  cases hm;exact⟨h1,h2⟩
 ·exact h u m (by omega) hm
theorem jM.take(h:jM ms rs k)(hk:k<ms.length)(hS:∀c,0<=c->c<=1114111->bU S c=fP ms[k].sp ms[k].fo ms[k].nt c)(h1:ms[k].kind=1)(he:ia=rl S):jM ms (rs++ia) (k+1):=
 (h.eV (fun x hx=>Ap.2 (Or.inl hx))).eQ hk (fun _=>⟨S,hS,(aar S).mono (fun x hx=>Ap.2 (Or.inr (by rw[he];exact hx)))⟩) (fun e=>by rw[h1]at e;cases e)
theorem jM.eo(h:jM ms rs k)(hk:k<ms.length)(hS:∀c,bU S c=kD c)(h1:ms[k].kind=2)(he:ia=rl S):jM ms (rs++ia) (k+1):=
 (h.eV (fun x hx=>Ap.2 (Or.inl hx))).eQ hk (fun e=>by rw[h1]at e;cases e) (fun _=>⟨S,fun c _ _=>hS c,(aar S).mono (fun x hx=>Ap.2 (Or.inr (by rw[he];exact hx)))⟩)
theorem jM.skip(h:jM ms rs k)(hk:k<ms.length)(h1:¬ms[k].kind=1)(h2:¬ms[k].kind=2):jM ms rs (k+1):=h.eQ hk (fun e=>absurd e h1) (fun e=>absurd e h2)
theorem jM.done(h:jM ms rs ms.length)(hs:∀x∈rs,x∈cl):tt ms cl:=
 ⟨fun u m hm hk=>by obtain⟨S,h1,h2⟩:=(h u m (Ah.1 hm).1 hm).1 hk;exact⟨S,h1,h2.mono hs⟩,fun u m hm hk=>by obtain⟨S,h1,h2⟩:=(h u m (Ah.1 hm).1 hm).2 hk;exact⟨S,h1,h2.mono hs⟩⟩
theorem aoR(c:Int):kD c=bU (lV 119) c:=by
 unfold kD lV;rw[if_neg (by decide),if_pos rfl];simp only[bU,List.any_cons,List.any_nil,Bool.or_false];rw[Bg];simp only[Bool.or_eq_true,Cm,Az,Gb];omega
theorem aas(h:∀x∈rs,-1<=x/\x<=1114112)(hS:dy S)(e:ia=rl S):∀x∈rs++ia,-1<=x/\x<=1114112:=fun x hx=>by
 rcases Ap.1 hx with hx|hx
 ·exact h x hx
 ·rw[e]at hx;unfold rl at hx;obtain⟨s,hs,hx⟩:=Er.1 hx;have:=hS s hs;simp only[Cn,Fj,or_false]at hx;omega
theorem anb(h:l.Pairwise (· < ·))(h0:∀x∈l,-1<=x):∀k,(hk:k<l.length)->(k:Int)-1<=l[k]:=by
 intro k;induction k with
 |zero=>intro hk;have:=h0 _ (A5 hk);omega
 |succ k ih=>
  intro hk;have h1:=ih (by omega);have h2:=Ce.1 h k (k+1) (by omega) hk (by omega);omega
theorem ahc(h:l.Pairwise (· < ·))(h0:∀x∈l,-1<=x/\x<=1114112):l.length<=2000000:=by
 by_cases e:l.length=0
 ·omega
 ·have h1:=anb h (fun x hx=>(h0 x hx).1) (l.length-1) (by omega);have h2:=(h0 _ (A5 (show l.length-1<l.length by omega))).2;omega
def XO(w:World)(ms:List MS):Ending->World->Prop:=fun e w'=>∃(cl:List Int) (a:Option Addr) (c cb:Nat),e=.returned (.slice a cl.length c)/\zo w' a cb cl/\cl.Pairwise (· <= ·)/\tt ms cl/\cl.length<=2000000/\(cl≠ []->w.heap.size<=cb)/\aa af w w'
def Zs(w:World)(v:Value)(rs:List Int):Prop:=(v=.slice none 0 0/\rs=[])\/∃g cap d,v=.slice (some ⟨g,0,none⟩) rs.length cap/\iI w g 0 cap d/\d.size=rs.length/\SortedIn ltInt 0 rs.length d/\((∀x∈rs,∃s,s<d.size/\d[s]! =x)/\∀s,s<d.size->d[s]! ∈rs)/\rs.length<1000000000/\rs.length<=cap/\cap<=maxLen
theorem anc(h:w.ownsRow base 21 1 v rs.length (mQ rs)):(v=.slice none 0 0/\rs.length=0)\/∃g cap,v=.slice (some ⟨g,0,none⟩) rs.length cap/\base<=g/\iI w g 0 cap rs.toArray/\rs.length<=cap/\cap<=maxLen:=by
 obtain⟨hx,h1⟩:=h;rcases h1 with⟨hv,h0⟩|⟨g,cap,aL,rfl,a1,a2,a3,a4,a5,a6⟩
 ·exact Or.inl ⟨hv,h0⟩
 ·refine Or.inr ⟨g,cap,rfl,a1,⟨aL,a2,by omega,by simp;omega,fun t ht=>?_⟩,a3,a4⟩;have I_:t<rs.length:=by simpa using ht
  have:(aL.toList.take (rs.length*1))[t]? =some (.int .i32 rs[t]):=by rw[a6];simp[mQ,I_]
  rw[Av (by omega)]at this;simp[I_]at this⊢;exact this
theorem anJ(h:w.ownsRow base 21 1 v rs.length (mQ rs))(hn:rs.length<1000000000):
 Calls prog 99 #[v] w fun e w'=>e=.returned (.tuple #[])/\aa (fun i=>v.ownBlock=some i) w w'/\Zs w' v rs:=by
 rcases anc h with⟨hv,h0⟩|⟨g3,cap,hv,hg3,dL,yu,hcm⟩
 ·subst hv;refine(anI w).mono ?_;rintro e w' ⟨rfl,rfl⟩;exact⟨rfl,aa.refl _ _,Or.inl ⟨rfl,Aw.1 h0⟩⟩
 ·subst hv;refine(anL (n:=rs.length) (by simp) dL hn).mono ?_;rintro e w' ⟨rfl,c,hp,hs,P⟩;refine⟨rfl,P.kept.mono (fun i hi=>by subst hi;rfl),Or.inr ⟨g3,cap,c,rfl,P.row,by rw[hp.1];simp,hs,⟨fun x hx=>?_,fun s hs=>?_⟩,hn,yu,hcm⟩⟩;rotate_left
  ·have Mn:=hp.2.2;have e1:(rs.toArray.extract 0 rs.length).toList=rs:=(by simp);rw[e1]at Mn;have aS:c.size=rs.length:=by rw[hp.1];simp
   refine Mn.mem_iff.1 ?_;rw[<-aS];simp only[Array.extract_size];simp[hs]
  have Mn:=hp.2.2;have e1:(rs.toArray.extract 0 rs.length).toList=rs:=by simp
  rw[e1]at Mn;have ug:=Mn.mem_iff.2 hx;have aS:c.size=rs.length:=by rw[hp.1];simp
  rw[<-aS]at ug;simp only[Array.extract_size]at ug;obtain⟨s,cR,gi⟩:=C4 ug;refine⟨s,by simpa using cR,?_⟩;rw[<-gi];simp at cR⊢;simp[cR]
theorem ag3(h:Zs w v rs):
 Calls prog 100 #[v] w fun e w'=>∃(cl:List Int) (a:Option Addr) (c cb:Nat),e=.returned (.slice a cl.length c)/\(cl≠ []->a=some ⟨cb,0,none⟩/\cb<w'.heap.size)/\(∀i,(h:i<cl.length)->w'.cell? ⟨cb,i,none⟩=some (.int .i32 cl[i]))/\cl.Pairwise (· < ·)/\(∀x∈rs,x∈cl)/\(∀x∈cl,x∈rs)/\(cl≠ []->v.ownBlock=some cb)/\aa (fun i=>v.ownBlock=some i) w w':=by
 rcases h with⟨hv,he⟩|⟨g,cap,d,hv,h1,h2,h3,h4,h5,h6,h7⟩
 ·subst hv he;refine(ag2 w).mono ?_;rintro e w' ⟨rfl,rfl⟩;exact⟨[],none,0,0,rfl,fun h=>absurd rfl h,fun i hi=>by simp at hi,List.Pairwise.nil,fun x hx=>by simp at hx,fun x hx=>by simp at hx,fun h=>absurd rfl h,aa.refl _ _⟩
 ·subst hv;refine(ag4 h2 h3 h1 h5 ⟨h6,h7⟩).mono ?_;rintro e w' ⟨cl,rfl,c1,c2,c3,c4,c5⟩;exact⟨cl,_,cap,g,rfl,fun _=>⟨rfl,Ar h1.lt c5.size⟩,c1,c2,fun x hx=>by obtain⟨s,s1,s2⟩:=h4.1 x hx;rw[<-s2];exact c3 s s1,fun x hx=>by obtain⟨s,s1,s2⟩:=c4 x hx;rw[s2];exact h4.2 s s1,fun _=>rfl,c5.mono (fun i hi=>by subst hi;rfl)⟩
theorem agR{lo hi:Nat}{u x:Int}(h:oN w lo hi base v ms)(L8:hi<=w.heap.size)(az:0<ms.length)(FW:ms.length<=4001)(hW:∀(u:Nat) (m:MS),ms[u]? =some m->m.kind=1->jP m.sp):
 Calls prog 71 #[.agg (V5 v u x)] w (XO w ms):=by
 have HWF:=ab hW;clear hW;obtain⟨i0,cP,di,dj,cY⟩:=Bo Tryz.VH;obtain⟨g,c,rfl,hg,hc,bt⟩:=h.array az;have lF:=ab bt;have B0:=aq.new w #[.slice (some ⟨g,0,none⟩) ms.length c,.int .i64 u,.int .i64 x] 73;have HB:=ab B0;have K0:Hid (aa af w (w.alloc (.cells #[.slice (some ⟨g,0,none⟩) ms.length c,.int .i64 u,.int .i64 x] 73))):=(aa.refl af w).alloc _;clear bt B0 h;simp only[V5];go_enter func71,ntmps71;go_wp2_with fail;go_loopg [3,9] ms.length (fun kk v3 i wr=>∃(k:Nat) (rs:List Int),i=.int .i64 (k:Int)/\k<=ms.length/\kk=ms.length-k/\Hid (rs.length<=12000*k)/\Hid (jM ms rs k/\∀x∈rs,-1<=x/\x<=1114112)/\Hid (wr.ownsRow (w.heap.size+1) 21 1 v3 rs.length (mQ rs))/\Hid (aa af (w.alloc (.cells #[.slice (some ⟨g,0,none⟩) ms.length c,.int .i64 u,.int .i64 x] 73)) wr))
 case atStart=>exact⟨0,[],rfl,Am _,rfl,ab (by simp),⟨jM.zero ms,fun x hx=>by simp at hx⟩,A7 _ _ _ _,aa.refl _ _⟩
 case round=>
  obtain⟨k,rs,rfl,hk,eT,HL,uI,HR,HK⟩:=hrel;have KW:=ab (K0.out.trans HK.out);have ksz:=HK.out.size;simp only[ib]at ksz;have b0:wr.cell? ⟨w.heap.size,0,none⟩=some (.slice (some ⟨g,0,none⟩) ms.length c):=(HB.out.kept HK.out (fun hx=>hx)).cell 0;obtain⟨fQ,c3,rfl⟩:=cA HR.out;by_cases aw:k<ms.length
  ·have hit:(k:Int)<(ms.length:Int):=(by omega);have UT:¬((ms.length:Int)<=(k:Int)):=(by omega);obtain⟨q,hq,mi⟩:=lF.out k aw;have qD:=hq.kept KW.out (fun _ _ _ hx=>hx) L8;have d0:wr.cell? ⟨g,k*6,none⟩=some (.int .i64 q.k):=(KW.out.cell (p:=⟨g,k*6,none⟩) hg (fun hx=>hx)).trans (mi 0 (by omega));have d1:wr.cell? ⟨g,k*6+1,none⟩=some (.slice q.sa q.sn q.sc):=(KW.out.cell (p:=⟨g,k*6+1,none⟩) hg (fun hx=>hx)).trans (mi 1 (by omega));have HO:Hid (∀i,(Value.slice fQ rs.length c3).ownBlock=some i->w.heap.size+1<=i):=(fun i hi=>(dw HR.out hi).1);have qf:Hid (∀W,aa af wr W->W.ownsRow (w.heap.size+1) 21 1 (.slice fQ rs.length c3) rs.length (mQ rs)):=fun W kW=>bR HR.out kW (fun i _ hx=>hx)
   have DC:Hid (∀(W w7:World) (v':Value) (ia:List Int) (m:Nat),aa af wr W->ia.length=m->m<=12000->w7.ownsRow (w.heap.size+1) 21 1 v' (rs.length+m) (mQ rs++mQ ia)->W.grownBy w7 (Value.slice fQ rs.length c3).ownBlock->
    ∃qR:List Int,qR=rs++ia/\qR.length<=12000*(k+1)/\w7.ownsRow (w.heap.size+1) 21 1 v' qR.length (mQ qR)/\aa af (w.alloc (.cells #[.slice (some ⟨g,0,none⟩) ms.length c,.int .i64 u,.int .i64 x] 73)) w7):=by
    intro W w7 v' ia m kW hm Qa ho nF;refine⟨rs++ia,rfl,by have:=HL.out;simp;omega,by rw[aeg,Aj,hm];exact ho,((HK.out.trans kW)).eN nF (fun j hj=>Or.inr (by have:=HO.out j hj;simp;omega))⟩
   by_cases k1:q.k=1
   ·have Vj:(q.k==1)=true:=(by simp[k1]);obtain⟨S,bs,s1,s2,s3,s4,s5,s6⟩:=qD.set (by rw[<-qD.k];exact k1);rw[s1]at d1;have nQ:Hid (∀ia:List Int,ia=rl S->jM ms (rs++ia) (k+1)/\∀x∈rs++ia,-1<=x/\x<=1114112):=(fun ia e=>⟨uI.out.1.take aw (s4.Xu (HWF.out k ms[k] (Ae aw) (by rw[<-qD.k];exact k1))).2 (by rw[<-qD.k];exact k1) e,aas uI.out.2 s5 e⟩);have F:=ab (Tv (c:=q.sc) (ao:=q.sa) (bs:=bs) (fun az=>(s2 az).1) s3 s5 s6 (fun az=>by have:=(s2 az).2;omega));clear hq qD mi k1 s1 s2 s3 s4 s5 HR;go_wp2_with fail;refine(F.out).mono ?_;rintro e w4 ⟨v4,rfl,ia,o4,l4,K_,k4⟩;obtain⟨je,c4,rfl⟩:=cA o4;have O4:=ab o4;have RY:=ab K_;clear K_;have L4:Hid (ia.length<=12000):=ab (by omega);have x9:=ab k4;clear F o4 l4 k4;go_wp2_with (at_builtin;refine afn rfl _ _ 96 rfl (w.heap.size+1) wr.heap.size 21 i0 _ 4 underlying96 cP di dj cY rfl _ _ _ rfl (qf.out _ x9.out) _ ia.length _ rfl O4.out (WS _) ?c1 ?c2 ?c3 ?_)
    case c1=>have:=HL.out;have:=L4.out;unfold maxLen;omega
    case c2=>have:=HL.out;have:=L4.out;omega
    case c3=>have:=x9.out.size;omega
    intro v' w7 ho nF qz;obtain⟨jd,c',rfl⟩:=cA ho;obtain⟨qR,r0,r1,r2,r3⟩:=DC.out _ _ _ ia ia.length x9.out rfl (by have:=L4.out;omega) ho nF;have r2':=r2;obtain⟨Tf,c5,e5⟩:=cA r2;have R0:Hid (jM ms qR (k+1)/\∀x∈qR,-1<=x/\x<=1114112):=by rw[r0];exact nQ.out ia RY.out
    have R1:=ab r1;have R2:=ab r2;have R3:=ab r3;clear ho nF qz r0 r1 r2 r3 DC qf HO O4 x9 L4 r2' e5;go_wp2_with fail;go_roundg (ms.length-(k+1))
    case measure=>omega
    case rel=>exact⟨k+1,qR,by simp,by omega,rfl,R1,R0,R2,R3⟩
   ·have Vj:(q.k==1)=false:=(by simp[k1]);by_cases k2:q.k=2
    ·have km:(q.k==2)=true:=(by simp[k2]);have K2E:Hid (ms[k].kind=2):=by rw[<-qD.k];exact k2
     clear hq qD mi k1 k2 HR;go_wp2_with fail;refine(aoS wr).mono ?_;rintro e w3 ⟨v3,rfl,S,o3,r3,l3,in3,k3⟩;have nQ:Hid (∀ia:List Int,ia=rl S->jM ms (rs++ia) (k+1)/\∀x∈rs++ia,-1<=x/\x<=1114112):=(fun ia e=>⟨uI.out.1.eo aw (fun c=>(in3 c).trans (aoR c).symm) K2E.out e,aas uI.out.2 r3 e⟩);have F:=ab (ahd o3 r3 (by omega));have K3:=ab k3;obtain⟨ao_,zL,rfl⟩:=cA o3;clear o3 r3 k3;go_wp2_with fail;refine(F.out).mono ?_;rintro e w4 ⟨v4,rfl,ia,o4,l4,K_,k4⟩;obtain⟨je,c4,rfl⟩:=cA o4;have O4:=ab o4;have RY:=ab K_;clear K_;have L4:Hid (ia.length<=12000):=ab (by omega);have x9:=ab (K3.out.trans k4);clear F o4 l4 k4 K3;go_wp2_with (at_builtin;refine afn rfl _ _ 96 rfl (w.heap.size+1) w3.heap.size 21 i0 _ 4 underlying96 cP di dj cY rfl _ _ _ rfl (qf.out _ x9.out) _ ia.length _ rfl O4.out (WS _) ?c1 ?c2 ?c3 ?_)
     case c1=>have:=HL.out;have:=L4.out;unfold maxLen;omega
     case c2=>have:=HL.out;have:=L4.out;omega
     case c3=>have:=x9.out.size;omega
     intro v' w7 ho nF qz;obtain⟨jd,c',rfl⟩:=cA ho;obtain⟨qR,r0,r1,r2,r3⟩:=DC.out _ _ _ ia ia.length x9.out rfl (by have:=L4.out;omega) ho nF;have r2':=r2;obtain⟨Tf,c5,e5⟩:=cA r2;have R0:Hid (jM ms qR (k+1)/\∀x∈qR,-1<=x/\x<=1114112):=by rw[r0];exact nQ.out ia RY.out
     have R1:=ab r1;have R2:=ab r2;have R3:=ab r3;clear ho nF qz r0 r1 r2 r3 DC qf HO O4 x9 L4 r2' e5;go_wp2_with fail;go_roundg (ms.length-(k+1))
     case measure=>omega
     case rel=>exact⟨k+1,qR,by simp,by omega,rfl,R1,R0,R2,R3⟩
    ·have km:(q.k==2)=false:=(by simp[k2]);have R1:Hid (rs.length<=12000*(k+1)):=ab (by have:=HL.out;omega);have R0:Hid (jM ms rs (k+1)/\∀x∈rs,-1<=x/\x<=1114112):=⟨uI.out.1.skip aw (by rw[<-qD.k];exact k1) (by rw[<-qD.k];exact k2),uI.out.2⟩;clear hq qD mi k1 k2 DC qf HO;go_wp2_with fail;go_roundg (ms.length-(k+1))
     case measure=>omega
     case rel=>exact⟨k+1,rs,by simp,by omega,rfl,R1,R0,HR,HK⟩
  ·have gA:k=ms.length:=(by omega);subst gA;have hit:¬((ms.length:Int)<(ms.length:Int)):=(by omega);have F:=ab (anJ HR.out (by have:=HL.out;omega));have HO:Hid (∀i,(Value.slice fQ rs.length c3).ownBlock=some i->w.heap.size+1<=i):=(fun i hi=>(dw HR.out hi).1);clear HR;go_wp2_with fail;refine(F.out).mono ?_;rintro e w5 ⟨rfl,K5,Q5⟩;have F2:=ab (ag3 Q5);have Ob:=ab K5;clear F Q5 K5;go_wp2_with fail;refine(F2.out).mono ?_;rintro e w6 ⟨cl,ao6,c6,cb,rfl,IC,jE,EE,nA,cT,nG,P6⟩;have HK6:=ab P6;have zt:=ab (And.intro IC (And.intro jE (And.intro EE (And.intro nA (And.intro cT nG)))));clear F2 P6 IC jE EE nA cT nG;go_wp2_with fail;go_ret;obtain⟨IC,jE,EE,nA,cT,nG⟩:=zt.out;refine⟨cl,ao6,c6,cb,rfl,⟨IC,jE⟩,EE.imp (fun h=>Int.le_of_lt h),uI.out.1.done nA,ahc EE (fun x hx=>uI.out.2 x (cT x hx)),fun az=>by have:=HO.out cb (nG az);omega,(KW.out.yN Ob.out (fun i hi'=>by have:=HO.out i hi';omega)).yN HK6.out (fun i hi'=>by have:=HO.out i hi';omega)⟩
open Go.Maps
structure SoP(w:World)(g:FG)(m:MC)(t:TG)(mp:Nat)(mo bh:Int)(s:dq)(e:Ending)(w':World):Prop where
 ex:∃(q:Nat) (t':TG) (D':DataW Unit),e=.returned (.pointer (some ⟨q,0,none⟩))/\t.le t'/\iJ w' m t'/\lH w' mp mo t'.T D'/\qi w' m t' s (jl m.cl bh) q/\∀i,t'.B i->t.B i\/w.heap.size<=i
 fu:iZ w' g
 kept:aa (fun i=>t.B i\/i=mp\/i=g.fb\/i=g.sb\/i=g.bb) w w'
theorem uu(h:iZ w g){i:Nat}(hi:g.cI i):i<w.heap.size:=by
 have h1:=h.ma.le;have h2:=h.ma.jK.lt;have h3:=h.ma.ic.lt;rcases hi with(hi|hi)|(hi|hi)
 ·rw[hi];exact h3
 ·omega
 ·rw[hi];exact h2.1
 ·rw[hi];exact h2.2
structure yc(w:World)(m:MC)(t:TG)(p:Nat)(s:dq)(wx:World)(t1:TG)(pb:Nat)(cs:List (Option Nat)):Prop where
 le:t.le t1
 T:t1.T=t.T
 mS:iJ wx m t1
 new:∀i,t1.B i->t.B i\/w.heap.size<=i
 ak:∃(c:Nat) (a:Option Addr),aq wx p #[.slice a s.aU.length c,.int .i32 s.ah,.bool s.mt,.slice (some ⟨pb,0,none⟩) (m.cl.length+1) (m.cl.length+1)] 192
 O:t1.B pb/\t1.O pb=p
 len:cs.length=m.cl.length+1
 row:aq wx pb (cs.map fun q=>Value.pointer (q.map fun q=>(⟨q,0,none⟩:Addr))).toArray 314
 steps:∀j q,cs[j]? =some (some q)->qi wx m t1 s j q
 kept:aa t.B w wx
theorem yc.aJ{w1:World}{cs:List (Option Nat)}(k:aa af w w1)(qu:iJ w m t)(hs:t.T p=some s)(e1:aq w p #[.slice a s.aU.length c,.int .i32 s.ah,.bool s.mt,.slice (some ⟨pb,0,none⟩) (m.cl.length+1) (m.cl.length+1)] 192)
 (h2:t.B pb/\t.O pb=p)(h4:cs.length=m.cl.length+1)(h5:aq w pb (cs.map fun q=>Value.pointer (q.map fun q=>(⟨q,0,none⟩:Addr))).toArray 314)(h6:∀j q,cs[j]? =some (some q)->qi w m t s j q):yc w m t p s w1 t pb cs:=
 ⟨TG.le.refl t,rfl,qu.kept k (fun i hx=>hx.elim),fun i hi=>Or.inl hi,⟨c,a,e1.kept k (fun hx=>hx)⟩,h2,h4,h5.kept k (fun hx=>hx),fun j q hq=>(h6 j q hq).eV k (fun i hx=>hx.elim) (TG.le.refl t),k.mono (fun i hx=>hx.elim)⟩
theorem yc.qM{w2 w3:World}(k:aa af w w2)(qu:iJ w m t)(hs:t.T p=some s)(e1:aq w p #[.slice a s.aU.length c,.int .i32 s.ah,.bool s.mt,.slice none 0 0] 192)(hp:w2.heap.size<=pb)(k3:aa (fun i=>i=p) w2 w3)
 (hB:aq w3 p #[.slice a s.aU.length c,.int .i32 s.ah,.bool s.mt,.slice (some ⟨pb,0,none⟩) (m.cl.length+1) (m.cl.length+1)] 192)(hP:aq w3 pb ((List.replicate (m.cl.length+1) (none:Option Nat)).map fun q=>Value.pointer (q.map fun q=>⟨q,0,none⟩)).toArray 314):
 yc w m t p s w3 (t.Jo p pb) pb (List.replicate (m.cl.length+1) none):=by
 have hT2:=qu.kept k (fun i hx=>hx.elim);have hn:¬t.B pb:=fun hx=>by have:=hT2.lt pb hx;omega
 refine⟨TG.acC hn,rfl,hT2.Jo hs (e1.kept k (fun hx=>hx)) hp k3 hB hP,fun i hi=>?_,⟨c,a,hB⟩,⟨Or.inr rfl,if_pos rfl⟩,by simp,hP,fun j q hq=>?_,(k.mono (fun i hx=>hx.elim)).trans (k3.mono (fun i hx=>by rw[hx];exact(qu.st p s hs).in_))⟩
 ·rcases hi with hi|hi
  ·exact Or.inl hi
  ·have:=k.size;exact Or.inr (by omega)
 ·rw[Cz]at hq;split at hq<;>cases hq
structure SR(w:World)(g:FG)(m:MC)(t:TG)(mp:Nat)(mo:Int)(s:dq)(j:Nat)(w':World)(q:Nat):Prop where
 ex:∃(t':TG) (D':DataW Unit),t.le t'/\iJ w' m t'/\lH w' mp mo t'.T D'/\qi w' m t' s j q/\∀i,t'.B i->t.B i\/w.heap.size<=i
 fu:iZ w' g
 kept:aa (fun i=>t.B i\/i=mp\/i=g.fb\/i=g.sb\/i=g.bb) w w'
def KG(p pb n:Nat)(W:World):Prop:=W.cell? ⟨p,3,none⟩=some (.slice (some ⟨pb,0,none⟩) n n)/\0<=W.heap.size
def ZA(eb p:Nat)(Ts:Value)(W:World):Prop:=W.cell? ⟨eb,3,none⟩=some Ts/\W.cell? ⟨eb,6,none⟩=some (.pointer (some ⟨p,0,none⟩))
theorem anW{eb mp cc mn QK:Nat}{mo bh:Int}{ca:Option Addr}{QJ:Option Addr}{D:DataW Unit}(hg:g.Ok)(FW:m.ms=g.ms/\m.st=g.st)(bt:0<=g.st/\g.st<g.ms.length)(hb:0<=bh/\bh<=1114111)
 (hE:aq w eb (pG g.st (.pointer (some ⟨g.fb,0,none⟩)) (oW g.ms) (.slice ca m.cl.length cc) mo mp (.pointer (some ⟨p,0,none⟩)) (.slice QJ mn QK)) 159)(dG:mn=jm s.aU+(if s.mt then 0 else 1))(fL:2<=mo/\mo<=1000000000)(hmp:mp<w.heap.size)
 (LA:lH w mp mo t.T D)(qu:iJ w m t)(hs:t.T p=some s)(hI:iZ w g)(hA:JP g t eb mp)(hC:zo w ca cb m.cl)(iD:m.cl.Pairwise (· <= ·))(fa:m.cl.length<=2000000)(hAm:∀i,t.B i->¬g.cI i):
 Calls prog 234 #[.pointer (some ⟨eb,0,none⟩),.int .i32 bh] w (SoP w g m t mp mo bh s):=by
 obtain⟨cs0,as0,Ry,e1,e2,e4⟩:=(qu.st p s hs).ex;have lD:=ab e1;have J4:=ab e4;have qY:=ab qu;have sq:=ab hs;have wu:=ab LA;have HI:=ab hI;have HA:=ab hA;have HG:=ab hg;have l7:=ab FW;have JY:=ab hAm;clear e1 e2 e4
 have S1:Hid (∀W,aa af w W->ZA eb p (.slice ca m.cl.length cc) W):=fun W k=>by
  have:=hE.kept k (fun hx=>hx);exact⟨this.cell 3,this.cell 6⟩
 have F:=ab fun(W:World) (k:aa af w W)=>alp W ca cc cb m.cl bh (hC.kept k (fun _ hx=>hx)).at_ (hC.kept k (fun _ hx=>hx)).cells iD (by omega)
 go_in
 go_wp2_with fail
 refine jW (Cf (by kernel_rfl) (Cd (S:=ZA eb p (.slice ca m.cl.length cc)) _ _ _ _ ?_));have aj:=S1.out w.drew (aa.refl _ _).drew;refine ai 0 7 (.pointer (some ⟨eb,0,none⟩)) aj ?_;refine ai 1 8 (.pointer (some ⟨eb,0,none⟩)) aj ?_;refine ai 2 9 (.pointer (some ⟨eb,3,none⟩)) aj ?_;refine ai 3 10 (.slice ca m.cl.length cc) aj ?_;refine ai 4 11 (.int .i32 bh) aj ?_;refine ai 6 13 (.pointer (some ⟨eb,0,none⟩)) aj ?_;refine ai 7 14 (.pointer (some ⟨eb,0,none⟩)) aj ?_;refine ai 8 15 (.pointer (some ⟨eb,6,none⟩)) aj ?_;refine ai 9 16 (.pointer (some ⟨p,0,none⟩)) aj ?_;simp only[Act.put,Aa,Ad,Ac];refine bN 5 fun K hK=>?_
 go_simp;refine(F.out _ (aa.refl _ _).drew).mono ?_;rintro e w1 ⟨rfl,k1⟩;dsimp only;have K1:Hid (aa af w w1):=((aa.refl af w).drew).trans k1;have eO:=S1.out w1 K1.out;refine hK.out _ _ eO (fun _=>?_);clear hK K F k1;refine ai 10 5 (.int .i64 (jl m.cl bh:Int)) eO ?_;refine ai 11 6 (.pointer (some ⟨p,0,none⟩)) eO ?_;simp only[Act.put,Aa,Ad,Ac];refine At (by kernel_rfl) ?_ _;refine jw ?_;have HE:=ab hE;clear qu hs LA hI hA hg FW hAm hC hE S1 aj eO;have FE:jl m.cl bh<=m.cl.length:=Fd;have HJ:=ab FE;obtain⟨j,hj⟩:∃j,j=jl m.cl bh:=⟨_,rfl⟩
 rw[<-hj]at FE⊢;have YD:=ab hj;clear hj HJ
 obtain⟨a9,n9,c9,pd⟩:∃a9 n9 c9,Ry=.slice a9 n9 c9:=by
  rcases J4.out with h|⟨pb,cs,h,_⟩
  ·exact⟨_,_,_,h⟩
  ·exact⟨_,_,_,h⟩
 subst pd;obtain⟨bz,AH⟩:∃bz:Bool,bz=a9.isNone:=⟨_,rfl⟩
 have u1:∀W,(binOp .eql 190 (.slice a9 n9 c9) (.slice none 0 0)).run prog W=.ok (.bool bz) W:=fun W=>by rw[AH];exact Lib.run_eql_slice_nil W _ _ a9 n9 c9 0 0 underlying190
 have Yk:=ab AH;clear AH;have c39:w1.cell? ⟨p,3,none⟩=some (.slice a9 n9 c9):=(lD.out.kept K1.out (fun hx=>hx)).cell 3;go_upto_if 21 with fail
 go_cut [5] (fun v5 wx=>v5=.int .i64 (j:Int)/\Hid (∃t1 pb cs,yc w m t p s wx t1 pb cs))
 case first=>
  rcases J4.out with e9|⟨pb,cs,e9,q2,q3,q4,q5⟩
  ·simp only[Bi]at e9;obtain⟨rfl,rfl,rfl⟩:=e9;have TA:bz=true:=Yk.out;subst TA;have B1:=lD.out.kept K1.out (fun hx=>hx);have c3:w1.cell? ⟨p,3,none⟩=some (.slice none 0 0):=B1.cell 3;have f3:w1.frozen? ⟨p,3,none⟩=false:=B1.frozen 3;have d3:w1.cell? ⟨eb,3,none⟩=some (.slice ca m.cl.length cc):=(HE.out.kept K1.out (fun hx=>hx)).cell 3;have F:=ab (akh w1 ca m.cl.length cc (by omega));obtain⟨i0,cP,di,dj,cY⟩:=Bo Tryz.ajO;obtain⟨n,hn⟩:∃n,n=m.cl.length+1:=⟨_,rfl⟩
   obtain⟨Z,hZ⟩:∃Z,Z=madeCells (Value.pointer none).cells ((n:Int).toNat*i0.size):=⟨_,rfl⟩
   have hn9:n<=2000001:=by omega
   have mk:∀W:World,(Instr.makeSlice 190 (.int .i64 (n:Int)) (.int .i64 (n:Int))).run prog W=.ok (.slice (some ⟨W.heap.size,0,none⟩) n n) (W.alloc (.cells Z 314)):=fun W=>by
    have:=run_makeSlice (P:=prog) W 190 314 i0 (.pointer none) underlying190 cP di .i64 .i64 (n:Int) (n:Int) (by omega) (Cg _) (by rw[dj];omega) (by rw[cY];omega) (by omega);rw[<-hZ]at this;simpa using this
   have HZ:Hid (Z=((List.replicate n (none:Option Nat)).map fun q=>Value.pointer (q.map fun q=>(⟨q,0,none⟩:Addr))).toArray):=by show _=_;rw[hZ,dj];simp only[Nat.mul_one,Ay];exact akA n
   have HN:=ab hn;rw[<-hn]at F
   have ax:Hid (∀(w2 w3:World),aa af w w2->w3=(w2.setCell ⟨p,3,none⟩ (.slice (some ⟨w2.heap.size,0,none⟩) n n)).alloc (.cells Z 314)->∃t1 pb cs,yc w m t p s w3 t1 pb cs):=fun w2 w3 k e=>by
    have oo:=(lD.out.kept k (fun hx=>hx)).lt;have b1:=((lD.out.kept k (fun hx=>hx)).setCell 3 (.slice (some ⟨w2.heap.size,0,none⟩) n n)).alloc (.cells Z 314)
    have b2:aq ((w2.setCell ⟨p,3,none⟩ (.slice (some ⟨w2.heap.size,0,none⟩) n n)).alloc (.cells Z 314)) w2.heap.size Z 314:=by
     have:=aq.new (w2.setCell ⟨p,3,none⟩ (.slice (some ⟨w2.heap.size,0,none⟩) n n)) Z 314;simpa using this
    rw[HN.out]at b1;rw[e];refine⟨_,w2.heap.size,_,yc.qM k qY.out sq.out lD.out (Ab _) (((aa.refl (fun i=>i=p) w2).setCell (p:=⟨p,3,none⟩) (Or.inl rfl) _).alloc _) ?_ ?_⟩
    ·rw[HN.out];exact b1
    ·rw[<-HN.out,<-HZ.out];exact b2
   clear B1 lD J4 qY sq wu HI HA HG l7 JY HE hZ hn cP di dj cY HZ;go_wp2_with fail;refine(F.out).mono ?_;rintro e w2 ⟨rfl,k2⟩;have oy:=K1.out.trans k2;have oo:=Bh _ _ c3;have zL:w2.cell? ⟨p,3,none⟩=some (.slice none 0 0):=(k2.cell (p:=⟨p,3,none⟩) oo (fun hx=>hx)).trans c3;have f3':w2.frozen? ⟨p,3,none⟩=false:=(k2.frozen (p:=⟨p,3,none⟩) oo (fun hx=>hx)).trans f3;have abV:=Bh _ _ zL;have f3a:(w2.alloc (.cells Z 314)).frozen? ⟨p,3,none⟩=false:=(((aa.refl af w2).alloc (.cells Z 314)).frozen (p:=⟨p,3,none⟩) abV (fun hx=>hx)).trans f3';have c3a:(w2.alloc (.cells Z 314)).cell? ⟨p,3,none⟩=some (.slice none 0 0):=(((aa.refl af w2).alloc (.cells Z 314)).cell (p:=⟨p,3,none⟩) abV (fun hx=>hx)).trans zL;have uF:=ab (ax.out w2 _ oy rfl);clear F ax K1 c3 f3 d3 k2 oy;go_wp2_with fail;go_meet
   case rel=>exact⟨rfl,uF⟩
  ·simp only[Bi]at e9;obtain⟨rfl,rfl,rfl⟩:=e9;have TA:bz=false:=Yk.out;subst TA;have B1:=lD.out.kept K1.out (fun hx=>hx);have c3:w1.cell? ⟨p,3,none⟩=some (.slice (some ⟨pb,0,none⟩) (m.cl.length+1) (m.cl.length+1)):=B1.cell 3;have uF:Hid (∃t1 pb cs,yc w m t p s w1 t1 pb cs):=⟨t,pb,cs,yc.aJ K1.out qY.out sq.out lD.out q2 q3 q4 q5⟩;clear B1 lD J4 qY sq wu HI HA HG l7 JY HE q4 q5;go_wp2_with fail;go_meet
   case rel=>exact⟨rfl,uF⟩
 case rest=>
  obtain⟨rfl,HX⟩:=hcut;obtain⟨t1,pb,cs,L⟩:=HX.out;have HL:=ab L;clear L HX;have AO:t.B p:=(qY.out.st p s sq.out).in_;have HKT:Hid (∀i,t.B i->i<w.heap.size):=qY.out.lt;have hd:eb<w.heap.size:=HE.out.lt;have hdm:∀i,t.B i->i≠eb/\i≠mp/\i≠g.fb/\i≠g.sb/\i≠g.bb:=fun i hi=>⟨fun e=>HA.out.eB (by rw[<-e];exact hi),fun e=>HA.out.mB (by rw[<-e];exact hi),fun e=>HA.out.fB.1 (by rw[<-e];exact hi),fun e=>HA.out.fB.2.1 (by rw[<-e];exact hi),fun e=>HA.out.fB.2.2 (by rw[<-e];exact hi)⟩
  have Sf:=ab hdm;clear hdm;have N6:=ab (HE.out.kept HL.out.kept HA.out.eB);have Ki:Hid (lH wc mp mo t1.T D):=by rw[HL.out.T];exact wu.out.kept HL.out.kept HA.out.mB
  have Kb:=ab (HI.out.kept HL.out.kept (fun i hi=>⟨by have:=Sf.out i hi;omega,JY.out i hi⟩));have Kq:Hid (t1.T p=some s):=by rw[HL.out.T];exact sq.out
  have apv:g.fb<w.heap.size/\g.sb<w.heap.size/\g.bb<w.heap.size:=by
   obtain⟨_,_,_,_,_,x1,⟨x2,_⟩,⟨x3,_⟩⟩:=HI.out.ex;exact⟨x1.lt,x2.lt,x3.lt⟩
  have HMX:Hid (∀i,g.cI i->¬w.heap.size<=i):=fun i hi hx=>by have:=uu HI.out hi;omega
  have uM:Hid (∀i,t1.B i->i≠eb/\i≠mp/\i≠g.fb/\i≠g.sb/\i≠g.bb):=fun i hi=>by
   rcases HL.out.new i hi with h|h
   ·exact Sf.out i h
   ·omega
  have NT:Hid (JP g t1 eb mp):=⟨HA.out.em,HA.out.ef,HA.out.mf,HA.out.mm,fun h=>(uM.out _ h).1 rfl,fun h=>(uM.out _ h).2.1 rfl,fun h=>(uM.out _ h).2.2.1 rfl,fun h=>(uM.out _ h).2.2.2.1 rfl,fun h=>(uM.out _ h).2.2.2.2 rfl⟩;have UV:j<cs.length:=by have:=HL.out.len;omega
  have Kd:=ab UV;obtain⟨n,hn⟩:∃n,n=m.cl.length+1:=⟨_,rfl⟩
  have HN:=ab hn;have mg:(j:Int)<(n:Int):=by omega
  obtain⟨c0,a0,b0⟩:=HL.out.ak;have c3:wc.cell? ⟨p,3,none⟩=some (.slice (some ⟨pb,0,none⟩) n n):=by rw[hn];exact b0.cell 3
  obtain⟨oq,Vf⟩:∃oq,cs[j]? =some oq:=⟨cs[j],Ae UV⟩
  have cj:wc.cell? ⟨pb,j,none⟩=some (.pointer (oq.map fun q=>⟨q,0,none⟩)):=by
   rw[HL.out.row.cell j];simp[Vf]
  have fj:wc.frozen? ⟨pb,j,none⟩=false:=HL.out.row.frozen j;have Kj:=ab Vf;obtain⟨bo,yr⟩:∃bo:Bool,bo=oq.isNone:=⟨_,rfl⟩
  have HBO:=ab yr;have cjv:wc.cell? ⟨pb,j,none⟩=some (.pointer (oq.map fun q=>⟨q,0,none⟩)):=cj;obtain⟨ov,Mi⟩:∃ov:Option Addr,ov=oq.map fun q=>⟨q,0,none⟩:=⟨_,rfl⟩
  rw[<-Mi]at cj;have Sx:=ab Mi;have YG:=HL.out.kept;have hK:Hid (aa (fun i=>t.B i\/i=mp\/i=g.fb\/i=g.sb\/i=g.bb) w wc):=YG.mono (fun i hi=>Or.inl hi);clear hn Vf UV YG b0 qY wu HI HA HE lD J4 sq K1 Sf FE;have cjx:=ab cjv;clear cjv yr Mi u1 c39;go_upto_if 38 with fail
  go_cut [5] (fun v5 wx=>v5=.int .i64 (j:Int)/\∃q,Hid (SR w g m t mp mo s j wx q)/\wx.cell? ⟨p,3,none⟩=some (.slice (some ⟨pb,0,none⟩) n n)/\wx.cell? ⟨pb,j,none⟩=some (.pointer (some ⟨q,0,none⟩)))
  case first=>
   cases oq with
   |some q=>
    have ax:Hid (SR w g m t mp mo s j wc q):=⟨⟨t1,D,HL.out.le,HL.out.mS,Ki.out,HL.out.steps j q Kj.out,HL.out.new⟩,Kb.out,hK.out⟩;have TB:ov=some ⟨q,0,none⟩:=Sx.out;subst TB;have cj':=ab cj;clear cj HL N6 Ki Kb Kq uM NT Kd Kj hK;go_wp2_with fail;go_meet
    case rel=>exact⟨rfl,q,ax,c3,cj'.out⟩
   |none=>
    have TB:ov=none:=Sx.out;subst TB
    have WO:Hid (∀W,aa af wc W->Calls prog 237 #[.pointer (some ⟨eb,0,none⟩),.pointer (some ⟨p,0,none⟩),.int .i32 bh] W (OD W g m t1 mp mo bh s)):=fun W k=>
     aoT HG.out l7.out bt hb (N6.out.kept k (fun hx=>hx)) dG fL (by have:=HL.out.kept.size;have:=k.size;omega) (Ki.out.kept k (fun hx=>hx)) (HL.out.mS.kept k (fun i hx=>hx.elim)) Kq.out (Kb.out.new k) NT.out
    have S5:Hid (∀W,aa af wc W->KG p pb n W):=fun W k=>by
     obtain⟨c0,a0,b0⟩:=HL.out.ak;refine⟨?_,Am _⟩;rw[HN.out];exact(b0.kept k (fun hx=>hx)).cell 3
    have CB:Hid (∀(W w4:World) (e:Ending),aa af wc W->OD W g m t1 mp mo bh s e w4->∃q,e=.returned (.pointer (some ⟨q,0,none⟩))/\KG p pb n w4/\(w4.frozen? ⟨pb,j,none⟩=false/\∃v,w4.cell? ⟨pb,j,none⟩=some v)/\SR w g m t mp mo s j (w4.setCell ⟨pb,j,none⟩ (.pointer (some ⟨q,0,none⟩))) q/\KG p pb n (w4.setCell ⟨pb,j,none⟩ (.pointer (some ⟨q,0,none⟩)))/\(w4.setCell ⟨pb,j,none⟩ (.pointer (some ⟨q,0,none⟩))).cell? ⟨pb,j,none⟩=some (.pointer (some ⟨q,0,none⟩))):=fun W w4 e k P=>by
     obtain⟨⟨q,t',D',rfl,p1,p2,p3,p4,p5⟩,p6,p7⟩:=P;have dS:=HL.out.O;have Mf:=uM.out pb dS.1;have Mo:=uM.out p (HL.out.le.B p AO);obtain⟨c0,a0,b0⟩:=HL.out.ak;have b4:=(b0.kept k (fun hx=>hx)).kept p7 (fun hx=>by omega);have r4:=(HL.out.row.kept k (fun hx=>hx)).kept p7 (fun hx=>by omega);have az:p≠pb:=KS b4 r4 (by decide);have hr:=r4.setCell j (.pointer (some ⟨q,0,none⟩));have aS:=k.size;have Vr:=HL.out.kept.size
     have nZ:(w4.setCell ⟨pb,j,none⟩ (.pointer (some ⟨q,0,none⟩))).cell? ⟨pb,j,none⟩=some (.pointer (some ⟨q,0,none⟩)):=by
      rw[hr.cell j];have:=Kd.out;simp[this]
     have S4:∀W',aa (fun i=>i=pb) w4 W'->KG p pb n W':=fun W' k'=>by
      refine⟨?_,Am _⟩;rw[HN.out];exact(b4.kept k' az).cell 3
     have kS:aa (fun i=>i=pb) w4 (w4.setCell ⟨pb,j,none⟩ (.pointer (some ⟨q,0,none⟩))):=(aa.refl (fun i=>i=pb) w4).setCell (p:=⟨pb,j,none⟩) (Or.inl rfl) _;rw[<-YD.out]at p4;refine⟨q,rfl,S4 _ (aa.refl _ _),⟨r4.frozen j,.pointer none,by rw[r4.cell j];simp[Kj.out]⟩,⟨⟨t',D',HL.out.le.trans p1,?_,p3.kept kS (fun hx=>by omega),p4.lX r4 (by decide) (by decide) kS (TG.le.refl _),fun i hi=>?_⟩,?_,?_⟩,S4 _ kS,nZ⟩
     ·exact p2.set (s:=s) (b:=p) (p1.T p s Kq.out) r4 ⟨p1.B _ dS.1,(p1.O _ dS.1).trans dS.2⟩ Kd.out p4
     ·rcases p5 i hi with h|h
      ·exact HL.out.new i h
      ·exact Or.inr (by omega)
     ·exact p6.kept kS (fun i hi=>by
       rw[hi];refine⟨by omega,fun hx=>?_⟩;rcases HL.out.new pb dS.1 with h|h
       ·exact JY.out pb h hx
       ·exact HMX.out pb hx h)
     ·refine((hK.out.bV (k.mono (S':=af) (fun i hx=>hx)) (fun i _ hx=>hx.elim)).bV p7 (fun i _ hx=>Or.inr hx)).setCell (p:=⟨pb,j,none⟩) ?_ _;rcases HL.out.new pb dS.1 with h|h
      ·exact Or.inl (Or.inl h)
      ·exact Or.inr h
    clear HL N6 Ki Kb Kq uM NT Kd Kj hK cjx Sx HBO HG l7 JY;go_wp2_with fail;refine jW (Cf (by kernel_rfl) (Cd (S:=KG p pb n) _ _ _ _ ?_));have aj:=S5.out wc.drew (aa.refl _ _).drew;refine ai 0 39 (.pointer (some ⟨p,0,none⟩)) aj ?_;refine ai 1 40 (.pointer (some ⟨p,0,none⟩)) aj ?_;refine ai 2 41 (.pointer (some ⟨p,3,none⟩)) aj ?_;refine ai 3 42 (.slice (some ⟨pb,0,none⟩) n n) aj ?_;refine ai 4 43 (.int .i64 (j:Int)) aj ?_;refine ai 5 44 (.pointer (some ⟨eb,0,none⟩)) aj ?_;refine ai 6 45 (.pointer (some ⟨p,0,none⟩)) aj ?_;refine ai 7 46 (.int .i32 bh) aj ?_;simp only[Act.put,Aa,Ad,Ac];refine bN 8 fun K hK=>?_
    go_simp;refine(WO.out _ (aa.refl _ _).drew).mono ?_;intro e w4 P;obtain⟨q,rfl,cw,⟨f4,v4,c4⟩,FF,oV,cq⟩:=CB.out _ w4 e (aa.refl _ _).drew P;dsimp only;have J7:=ab FF;have HCQ:=ab cq;have xY:=ab oV;refine hK.out _ _ cw (fun _=>?_);clear hK K WO S5 CB P FF cq oV aj c3 fj cj;refine ai 9 48 (.pointer (some ⟨pb,j,none⟩)) cw ?_;simp only[Act.put,Aa,Ad,Ac];refine bN 10 fun K hK=>?_
    go_simp;refine hK.out _ _ xY.out (fun _=>?_);clear hK K;refine At (by kernel_rfl) ?_ _;refine jw ?_;go_wp2_with fail;go_meet
    case rel=>exact⟨rfl,q,J7,xY.out.1,HCQ.out⟩
  case rest=>
   obtain⟨rfl,q,HF,zL,cj'⟩:=hcut;clear c3 cj fj hK HL N6 Ki Kb Kq uM NT Kd Kj;go_wp2_with fail;go_ret;obtain⟨⟨t',D',f1,f2,f3,f4,f5⟩,f6,f7⟩:=HF.out;exact⟨⟨q,t',D',rfl,f1,f2,f3,by rw[<-YD.out];exact f4,f5⟩,f6,f7⟩
end Go.Proofs.YtpdnofhackjfdaaGreatDoor
