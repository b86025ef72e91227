/- Package marks -/
import Derived.Test.YtpdnofhackjfdaaGreatDoorP37
set_option linter.all false
set_option maxRecDepth 100000
set_option maxHeartbeats 8000000
namespace Go.Proofs.YtpdnofhackjfdaaGreatDoor
open Go.Proofs.Tryz
open Go.RowKit Go.Sort
variable {g:FG} {cl l rs ig:List Int} {ms:List MS} {m:MC} {s:dt} {base c cb k p pb:Nat} {a:Option Addr} {S:bF} {t:TG} {v:Value} {w:World}
structure zt(w:World)(a:Option Addr)(cb:Nat)(cl:List Int):Prop where
 at_:cl≠ []->a=some ⟨cb,0,none⟩/\cb<w.heap.size
 cells:∀i,(h:i<cl.length)->w.cell? ⟨cb,i,none⟩=some (.int .i32 cl[i])
theorem zt.kept{w':World}{K:Nat->Prop}(h:zt w a cb cl)(k:aa K w w')(hK:cl≠ []->¬K cb):zt w' a cb cl:=
 ⟨fun hl=>⟨(h.at_ hl).1,As (h.at_ hl).2 k.size⟩,fun i hi=>by
   have az:cl≠ []:=by intro e;subst e;simp at hi
   exact(k.cell (p:=⟨cb,i,none⟩) (h.at_ az).2 (hK az)).trans (h.cells i hi)⟩
def jO(ms:List MS)(rs:List Int)(k:Nat):Prop:=∀(u:Nat) (m:MS),u<k->ms[u]? =some m->(m.kind=1->∃S,(∀c,0<=c->c<=1114111->bV S c=eV m.sp m.fo m.nt c)/\uD rs S)/\(m.kind=2->∃S,(∀c,0<=c->c<=1114111->bV S c=kI c)/\uD rs S)
theorem jO.zero(ms:List MS):jO ms [] 0:=fun u m h=>by omega
theorem uD.mono{a b:List Int}(h:uD a S)(hs:∀x∈a,x∈b):uD b S:=fun s qG=>⟨hs _ (h s qG).1,hs _ (h s qG).2⟩
theorem aal(S:bF):uD (rq S) S:=fun s hs=>by
 unfold rq;exact⟨Ez.2 ⟨s,hs,by simp⟩,Ez.2 ⟨s,hs,by simp⟩⟩
theorem jO.eG{qS:List Int}(h:jO ms rs k)(hs:∀x∈rs,x∈qS):jO ms qS k:=fun u m hu hm=>
 ⟨fun e=>by obtain⟨S,h1,h2⟩:=(h u m hu hm).1 e;exact⟨S,h1,h2.mono hs⟩,fun e=>by obtain⟨S,h1,h2⟩:=(h u m hu hm).2 e;exact⟨S,h1,h2.mono hs⟩⟩
theorem jO.eU(h:jO ms rs k)(hk:k<ms.length)(h1:ms[k].kind=1->∃S,(∀c,0<=c->c<=1114111->bV S c=eV ms[k].sp ms[k].fo ms[k].nt c)/\uD rs S)(h2:ms[k].kind=2->∃S,(∀c,0<=c->c<=1114111->bV S c=kI c)/\uD rs S):jO ms rs (k+1):=fun u m hu hm=>by
 by_cases e:u=k
 ·subst e;rw[Ae hk]at hm
  cases hm;exact⟨h1,h2⟩
 ·exact h u m (by omega) hm
theorem jO.take(h:jO ms rs k)(hk:k<ms.length)(hS:∀c,0<=c->c<=1114111->bV S c=eV ms[k].sp ms[k].fo ms[k].nt c)(h1:ms[k].kind=1)(he:ig=rq S):jO ms (rs++ig) (k+1):=
 (h.eG (fun x hx=>Al.2 (Or.inl hx))).eU hk (fun _=>⟨S,hS,(aal S).mono (fun x hx=>Al.2 (Or.inr (by rw[he];exact hx)))⟩) (fun e=>by rw[h1]at e;cases e)
theorem jO.eE(h:jO ms rs k)(hk:k<ms.length)(hS:∀c,bV S c=kI c)(h1:ms[k].kind=2)(he:ig=rq S):jO ms (rs++ig) (k+1):=
 (h.eG (fun x hx=>Al.2 (Or.inl hx))).eU hk (fun e=>by rw[h1]at e;cases e) (fun _=>⟨S,fun c _ _=>hS c,(aal S).mono (fun x hx=>Al.2 (Or.inr (by rw[he];exact hx)))⟩)
theorem jO.skip(h:jO ms rs k)(hk:k<ms.length)(h1:¬ms[k].kind=1)(h2:¬ms[k].kind=2):jO ms rs (k+1):=h.eU hk (fun e=>absurd e h1) (fun e=>absurd e h2)
theorem jO.done(h:jO ms rs ms.length)(hs:∀x∈rs,x∈cl):tA ms cl:=
 ⟨fun u m hm hk=>by obtain⟨S,h1,h2⟩:=(h u m (Ag.1 hm).1 hm).1 hk;exact⟨S,h1,h2.mono hs⟩,fun u m hm hk=>by obtain⟨S,h1,h2⟩:=(h u m (Ag.1 hm).1 hm).2 hk;exact⟨S,h1,h2.mono hs⟩⟩
theorem apw(c:Int):kI c=bV (lY 119) c:=by
 unfold kI lY;rw[if_neg (by decide),if_pos rfl];simp only[bV,List.any_cons,List.any_nil,Bool.or_false];rw[Be];simp only[Bool.or_eq_true,Co,Az,Gi];omega
theorem aam(h:∀x∈rs,-1<=x/\x<=1114112)(hS:dz S)(e:ig=rq S):∀x∈rs++ig,-1<=x/\x<=1114112:=fun x hx=>by
 rcases Al.1 hx with hx|hx
 ·exact h x hx
 ·rw[e]at hx;unfold rq at hx;obtain⟨s,hs,hx⟩:=Ez.1 hx;have:=hS s hs;simp only[Cg,Fr,or_false]at hx;omega
theorem anI(h:l.Pairwise (· < ·))(h0:∀x∈l,-1<=x):∀k,(hk:k<l.length)->(k:Int)-1<=l[k]:=by
 intro k;induction k with
 |zero=>intro hk;have:=h0 _ (A5 hk);omega
 |succ k ih=>
  intro hk;have h1:=ih (by omega);have h2:=Cd.1 h k (k+1) (by omega) hk (by omega);omega
theorem ahe(h:l.Pairwise (· < ·))(h0:∀x∈l,-1<=x/\x<=1114112):l.length<=2000000:=by
 by_cases e:l.length=0
 ·omega
 ·have h1:=anI h (fun x hx=>(h0 x hx).1) (l.length-1) (by omega);have h2:=(h0 _ (A5 (show l.length-1<l.length by omega))).2;omega
def XX(w:World)(ms:List MS):Ending->World->Prop:=fun e w'=>∃(cl:List Int) (a:Option Addr) (c cb:Nat),e=.returned (.slice a cl.length c)/\zt w' a cb cl/\cl.Pairwise (· <= ·)/\tA ms cl/\cl.length<=2000000/\(cl≠ []->w.heap.size<=cb)/\aa af w w'
def Zr(w:World)(v:Value)(rs:List Int):Prop:=(v=.slice none 0 0/\rs=[])\/∃g cap d,v=.slice (some ⟨g,0,none⟩) rs.length cap/\iD w g 0 cap d/\d.size=rs.length/\SortedIn ltInt 0 rs.length d/\((∀x∈rs,∃s,s<d.size/\d[s]! =x)/\∀s,s<d.size->d[s]! ∈rs)/\rs.length<1000000000/\rs.length<=cap/\cap<=maxLen
theorem anJ(h:w.ownsRow base 21 1 v rs.length (nd rs)):(v=.slice none 0 0/\rs.length=0)\/∃g cap,v=.slice (some ⟨g,0,none⟩) rs.length cap/\base<=g/\iD w g 0 cap rs.toArray/\rs.length<=cap/\cap<=maxLen:=by
 obtain⟨hx,h1⟩:=h;rcases h1 with⟨hv,h0⟩|⟨g,cap,aM,rfl,a1,a2,a3,a4,a5,a6⟩
 ·exact Or.inl ⟨hv,h0⟩
 ·refine Or.inr ⟨g,cap,rfl,a1,⟨aM,a2,by omega,by simp;omega,fun t ht=>?_⟩,a3,a4⟩;have BH:t<rs.length:=by simpa using ht
  have:(aM.toList.take (rs.length*1))[t]? =some (.int .i32 rs[t]):=by rw[a6];simp[nd,BH]
  rw[Aw (by omega)]at this;simp[BH]at this⊢;exact this
theorem aod(h:w.ownsRow base 21 1 v rs.length (nd rs))(hn:rs.length<1000000000):
 Calls prog 99 #[v] w fun e w'=>e=.returned (.tuple #[])/\aa (fun i=>v.ownBlock=some i) w w'/\Zr w' v rs:=by
 rcases anJ h with⟨hv,h0⟩|⟨g3,cap,hv,hg3,dO,yr,hcm⟩
 ·subst hv;refine(aob w).mono ?_;rintro e w' ⟨rfl,rfl⟩;exact⟨rfl,aa.refl _ _,Or.inl ⟨rfl,Ax.1 h0⟩⟩
 ·subst hv;refine(aof (n:=rs.length) (by simp) dO hn).mono ?_;rintro e w' ⟨rfl,c,hp,hs,P⟩;refine⟨rfl,P.kept.mono (fun i hi=>by subst hi;rfl),Or.inr ⟨g3,cap,c,rfl,P.row,by rw[hp.1];simp,hs,⟨fun x hx=>?_,fun s hs=>?_⟩,hn,yr,hcm⟩⟩;rotate_left
  ·have MB:=hp.2.2;have e1:(rs.toArray.extract 0 rs.length).toList=rs:=(by simp);rw[e1]at MB;have aP:c.size=rs.length:=by rw[hp.1];simp
   refine MB.mem_iff.1 ?_;rw[<-aP];simp only[Array.extract_size];simp[hs]
  have MB:=hp.2.2;have e1:(rs.toArray.extract 0 rs.length).toList=rs:=by simp
  rw[e1]at MB;have ui:=MB.mem_iff.2 hx;have aP:c.size=rs.length:=by rw[hp.1];simp
  rw[<-aP]at ui;simp only[Array.extract_size]at ui;obtain⟨s,cU,gg⟩:=C3 ui;refine⟨s,by simpa using cU,?_⟩;rw[<-gg];simp at cU⊢;simp[cU]
theorem ag3(h:Zr w v rs):
 Calls prog 100 #[v] w fun e w'=>∃(cl:List Int) (a:Option Addr) (c cb:Nat),e=.returned (.slice a cl.length c)/\(cl≠ []->a=some ⟨cb,0,none⟩/\cb<w'.heap.size)/\(∀i,(h:i<cl.length)->w'.cell? ⟨cb,i,none⟩=some (.int .i32 cl[i]))/\cl.Pairwise (· < ·)/\(∀x∈rs,x∈cl)/\(∀x∈cl,x∈rs)/\(cl≠ []->v.ownBlock=some cb)/\aa (fun i=>v.ownBlock=some i) w w':=by
 rcases h with⟨hv,he⟩|⟨g,cap,d,hv,h1,h2,h3,h4,h5,h6,h7⟩
 ·subst hv he;refine(ag2 w).mono ?_;rintro e w' ⟨rfl,rfl⟩;exact⟨[],none,0,0,rfl,fun h=>absurd rfl h,fun i hi=>by simp at hi,List.Pairwise.nil,fun x hx=>by simp at hx,fun x hx=>by simp at hx,fun h=>absurd rfl h,aa.refl _ _⟩
 ·subst hv;refine(ag4 h2 h3 h1 h5 ⟨h6,h7⟩).mono ?_;rintro e w' ⟨cl,rfl,c1,c2,c3,c4,c5⟩;exact⟨cl,_,cap,g,rfl,fun _=>⟨rfl,As h1.lt c5.size⟩,c1,c2,fun x hx=>by obtain⟨s,s1,s2⟩:=h4.1 x hx;rw[<-s2];exact c3 s s1,fun x hx=>by obtain⟨s,s1,s2⟩:=c4 x hx;rw[s2];exact h4.2 s s1,fun _=>rfl,c5.mono (fun i hi=>by subst hi;rfl)⟩
theorem agS{lo hi:Nat}{u x:Int}(h:oU w lo hi base v ms)(Mm:hi<=w.heap.size)(az:0<ms.length)(xd:ms.length<=4001)(hW:∀(u:Nat) (m:MS),ms[u]? =some m->m.kind=1->jS m.sp):
 Calls prog 71 #[.agg (Wk v u x)] w (XX w ms):=by
 have HWF:=ab hW;clear hW;obtain⟨i0,cS,dm,dp,c_⟩:=Bp Tryz.VX;obtain⟨g,c,rfl,hg,hc,bC⟩:=h.array az;have lF:=ab bC;have B0:=aq.new w #[.slice (some ⟨g,0,none⟩) ms.length c,.int .i64 u,.int .i64 x] 73;have HB:=ab B0;have K0:Hid (aa af w (w.alloc (.cells #[.slice (some ⟨g,0,none⟩) ms.length c,.int .i64 u,.int .i64 x] 73))):=(aa.refl af w).alloc _;clear bC B0 h;simp only[Wk];go_enter func71,ntmps71;go_wp2_with fail;go_loopg [3,9] ms.length (fun kk v3 i wr=>∃(k:Nat) (rs:List Int),i=.int .i64 (k:Int)/\k<=ms.length/\kk=ms.length-k/\Hid (rs.length<=12000*k)/\Hid (jO ms rs k/\∀x∈rs,-1<=x/\x<=1114112)/\Hid (wr.ownsRow (w.heap.size+1) 21 1 v3 rs.length (nd rs))/\Hid (aa af (w.alloc (.cells #[.slice (some ⟨g,0,none⟩) ms.length c,.int .i64 u,.int .i64 x] 73)) wr))
 case atStart=>exact⟨0,[],rfl,Ao _,rfl,ab (by simp),⟨jO.zero ms,fun x hx=>by simp at hx⟩,A6 _ _ _ _,aa.refl _ _⟩
 case round=>
  obtain⟨k,rs,rfl,hk,eZ,HL,uH,HR,HK⟩:=hrel;have KW:=ab (K0.o.trans HK.o);have ksz:=HK.o.size;simp only[ij]at ksz;have b0:wr.cell? ⟨w.heap.size,0,none⟩=some (.slice (some ⟨g,0,none⟩) ms.length c):=(HB.o.kept HK.o (fun hx=>hx)).cell 0;obtain⟨fQ,c3,rfl⟩:=cK HR.o;by_cases aw:k<ms.length
  ·have hit:(k:Int)<(ms.length:Int):=(by omega);have U8:¬((ms.length:Int)<=(k:Int)):=(by omega);obtain⟨q,hq,mu⟩:=lF.o k aw;have qE:=hq.kept KW.o (fun _ _ _ hx=>hx) Mm;have d0:wr.cell? ⟨g,k*6,none⟩=some (.int .i64 q.k):=(KW.o.cell (p:=⟨g,k*6,none⟩) hg (fun hx=>hx)).trans (mu 0 (by omega));have d1:wr.cell? ⟨g,k*6+1,none⟩=some (.slice q.sa q.sn q.sc):=(KW.o.cell (p:=⟨g,k*6+1,none⟩) hg (fun hx=>hx)).trans (mu 1 (by omega));have HO:Hid (∀i,(Value.slice fQ rs.length c3).ownBlock=some i->w.heap.size+1<=i):=(fun i hi=>(dE HR.o hi).1);have qh:Hid (∀W,aa af wr W->W.ownsRow (w.heap.size+1) 21 1 (.slice fQ rs.length c3) rs.length (nd rs)):=fun W kW=>bY HR.o kW (fun i _ hx=>hx)
   have DV:Hid (∀(W w7:World) (v':Value) (ig:List Int) (m:Nat),aa af wr W->ig.length=m->m<=12000->w7.ownsRow (w.heap.size+1) 21 1 v' (rs.length+m) (nd rs++nd ig)->W.grownBy w7 (Value.slice fQ rs.length c3).ownBlock->
    ∃qS:List Int,qS=rs++ig/\qS.length<=12000*(k+1)/\w7.ownsRow (w.heap.size+1) 21 1 v' qS.length (nd qS)/\aa af (w.alloc (.cells #[.slice (some ⟨g,0,none⟩) ms.length c,.int .i64 u,.int .i64 x] 73)) w7):=by
    intro W w7 v' ig m kW hm Ql ho nL;refine⟨rs++ig,rfl,by have:=HL.o;simp;omega,by rw[aeg,Aj,hm];exact ho,((HK.o.trans kW)).eQ nL (fun j hj=>Or.inr (by have:=HO.o j hj;simp;omega))⟩
   by_cases k1:q.k=1
   ·have Qx:(q.k==1)=true:=(by simp[k1]);obtain⟨S,bs,s1,s2,s3,s4,s5,s6⟩:=qE.set (by rw[<-qE.k];exact k1);rw[s1]at d1;have nX:Hid (∀ig:List Int,ig=rq S->jO ms (rs++ig) (k+1)/\∀x∈rs++ig,-1<=x/\x<=1114112):=(fun ig e=>⟨uH.o.1.take aw (s4.XF (HWF.o k ms[k] (Ae aw) (by rw[<-qE.k];exact k1))).2 (by rw[<-qE.k];exact k1) e,aam uH.o.2 s5 e⟩);have F:=ab (TH (c:=q.sc) (ao:=q.sa) (bs:=bs) (fun az=>(s2 az).1) s3 s5 s6 (fun az=>by have:=(s2 az).2;omega));clear hq qE mu k1 s1 s2 s3 s4 s5 HR;go_wp2_with fail;refine(F.o).mono ?_;rintro e w4 ⟨v4,rfl,ig,o4,l4,Lq,k4⟩;obtain⟨jh,c4,rfl⟩:=cK o4;have O4:=ab o4;have Se:=ab Lq;clear Lq;have L4:Hid (ig.length<=12000):=ab (by omega);have x8:=ab k4;clear F o4 l4 k4;go_wp2_with (at_builtin;refine afi rfl _ _ 96 rfl (w.heap.size+1) wr.heap.size 21 i0 _ 4 underlying96 cS dm dp c_ rfl _ _ _ rfl (qh.o _ x8.o) _ ig.length _ rfl O4.o (Xb _) ?c1 ?c2 ?c3 ?_)
    case c1=>have:=HL.o;have:=L4.o;unfold maxLen;omega
    case c2=>have:=HL.o;have:=L4.o;omega
    case c3=>have:=x8.o.size;omega
    intro v' w7 ho nL w_;obtain⟨jg,c',rfl⟩:=cK ho;obtain⟨qS,r0,r1,r2,r3⟩:=DV.o _ _ _ ig ig.length x8.o rfl (by have:=L4.o;omega) ho nL;have r2':=r2;obtain⟨Tp,c5,e5⟩:=cK r2;have R0:Hid (jO ms qS (k+1)/\∀x∈qS,-1<=x/\x<=1114112):=by rw[r0];exact nX.o ig Se.o
    have R1:=ab r1;have R2:=ab r2;have R3:=ab r3;clear ho nL w_ r0 r1 r2 r3 DV qh HO O4 x8 L4 r2' e5;go_wp2_with fail;go_roundg (ms.length-(k+1))
    case measure=>omega
    case rel=>exact⟨k+1,qS,by simp,by omega,rfl,R1,R0,R2,R3⟩
   ·have Qx:(q.k==1)=false:=(by simp[k1]);by_cases k2:q.k=2
    ·have kC:(q.k==2)=true:=(by simp[k2]);have K2E:Hid (ms[k].kind=2):=by rw[<-qE.k];exact k2
     clear hq qE mu k1 k2 HR;go_wp2_with fail;refine(apz wr).mono ?_;rintro e w3 ⟨v3,rfl,S,o3,r3,l3,in3,k3⟩;have nX:Hid (∀ig:List Int,ig=rq S->jO ms (rs++ig) (k+1)/\∀x∈rs++ig,-1<=x/\x<=1114112):=(fun ig e=>⟨uH.o.1.eE aw (fun c=>(in3 c).trans (apw c).symm) K2E.o e,aam uH.o.2 r3 e⟩);have F:=ab (ahf o3 r3 (by omega));have K3:=ab k3;obtain⟨apK,zO,rfl⟩:=cK o3;clear o3 r3 k3;go_wp2_with fail;refine(F.o).mono ?_;rintro e w4 ⟨v4,rfl,ig,o4,l4,Lq,k4⟩;obtain⟨jh,c4,rfl⟩:=cK o4;have O4:=ab o4;have Se:=ab Lq;clear Lq;have L4:Hid (ig.length<=12000):=ab (by omega);have x8:=ab (K3.o.trans k4);clear F o4 l4 k4 K3;go_wp2_with (at_builtin;refine afi rfl _ _ 96 rfl (w.heap.size+1) w3.heap.size 21 i0 _ 4 underlying96 cS dm dp c_ rfl _ _ _ rfl (qh.o _ x8.o) _ ig.length _ rfl O4.o (Xb _) ?c1 ?c2 ?c3 ?_)
     case c1=>have:=HL.o;have:=L4.o;unfold maxLen;omega
     case c2=>have:=HL.o;have:=L4.o;omega
     case c3=>have:=x8.o.size;omega
     intro v' w7 ho nL w_;obtain⟨jg,c',rfl⟩:=cK ho;obtain⟨qS,r0,r1,r2,r3⟩:=DV.o _ _ _ ig ig.length x8.o rfl (by have:=L4.o;omega) ho nL;have r2':=r2;obtain⟨Tp,c5,e5⟩:=cK r2;have R0:Hid (jO ms qS (k+1)/\∀x∈qS,-1<=x/\x<=1114112):=by rw[r0];exact nX.o ig Se.o
     have R1:=ab r1;have R2:=ab r2;have R3:=ab r3;clear ho nL w_ r0 r1 r2 r3 DV qh HO O4 x8 L4 r2' e5;go_wp2_with fail;go_roundg (ms.length-(k+1))
     case measure=>omega
     case rel=>exact⟨k+1,qS,by simp,by omega,rfl,R1,R0,R2,R3⟩
    ·have kC:(q.k==2)=false:=(by simp[k2]);have R1:Hid (rs.length<=12000*(k+1)):=ab (by have:=HL.o;omega);have R0:Hid (jO ms rs (k+1)/\∀x∈rs,-1<=x/\x<=1114112):=⟨uH.o.1.skip aw (by rw[<-qE.k];exact k1) (by rw[<-qE.k];exact k2),uH.o.2⟩;clear hq qE mu k1 k2 DV qh HO;go_wp2_with fail;go_roundg (ms.length-(k+1))
     case measure=>omega
     case rel=>exact⟨k+1,rs,by simp,by omega,rfl,R1,R0,HR,HK⟩
  ·have gy:k=ms.length:=(by omega);subst gy;have hit:¬((ms.length:Int)<(ms.length:Int)):=(by omega);have F:=ab (aod HR.o (by have:=HL.o;omega));have HO:Hid (∀i,(Value.slice fQ rs.length c3).ownBlock=some i->w.heap.size+1<=i):=(fun i hi=>(dE HR.o hi).1);clear HR;go_wp2_with fail;refine(F.o).mono ?_;rintro e w5 ⟨rfl,K5,Q5⟩;have F2:=ab (ag3 Q5);have Ol:=ab K5;clear F Q5 K5;go_wp2_with fail;refine(F2.o).mono ?_;rintro e w6 ⟨cl,ao6,c6,cb,rfl,IS,jj,FH,nF,cT,nM,P6⟩;have HK6:=ab P6;have zw:=ab (And.intro IS (And.intro jj (And.intro FH (And.intro nF (And.intro cT nM)))));clear F2 P6 IS jj FH nF cT nM;go_wp2_with fail;go_ret;obtain⟨IS,jj,FH,nF,cT,nM⟩:=zw.o;refine⟨cl,ao6,c6,cb,rfl,⟨IS,jj⟩,FH.imp (fun h=>Int.le_of_lt h),uH.o.1.done nF,ahe FH (fun x hx=>uH.o.2 x (cT x hx)),fun az=>by have:=HO.o cb (nM az);omega,(KW.o.yN Ol.o (fun i hi'=>by have:=HO.o i hi';omega)).yN HK6.o (fun i hi'=>by have:=HO.o i hi';omega)⟩
open Go.Maps
structure SoP(w:World)(g:FG)(m:MC)(t:TG)(mp:Nat)(mo bh:Int)(s:dt)(e:Ending)(w':World):Prop where
 ex:∃(q:Nat) (t':TG) (D':DataW Unit),e=.returned (.pointer (some ⟨q,0,none⟩))/\t.le t'/\iE w' m t'/\lH w' mp mo t'.T D'/\ql w' m t' s (jn m.cl bh) q/\∀i,t'.B i->t.B i\/w.heap.size<=i
 fA:jc w' g
 kept:aa (fun i=>t.B i\/i=mp\/i=g.fb\/i=g.sb\/i=g.bb) w w'
theorem uv(h:jc w g){i:Nat}(hi:g.cM i):i<w.heap.size:=by
 have h1:=h.ma.le;have h2:=h.ma.j8.lt;have h3:=h.ma.iw.lt;rcases hi with(hi|hi)|(hi|hi)
 ·rw[hi];exact h3
 ·omega
 ·rw[hi];exact h2.1
 ·rw[hi];exact h2.2
structure x_(w:World)(m:MC)(t:TG)(p:Nat)(s:dt)(wx:World)(t1:TG)(pb:Nat)(cs:List (Option Nat)):Prop where
 le:t.le t1
 T:t1.T=t.T
 nf:iE wx m t1
 new:∀i,t1.B i->t.B i\/w.heap.size<=i
 aj:∃(c:Nat) (a:Option Addr),aq wx p #[.slice a s.aV.length c,.int .i32 s.ah,.bool s.mt,.slice (some ⟨pb,0,none⟩) (m.cl.length+1) (m.cl.length+1)] 192
 O:t1.B pb/\t1.O pb=p
 len:cs.length=m.cl.length+1
 row:aq wx pb (cs.map fun q=>Value.pointer (q.map fun q=>(⟨q,0,none⟩:Addr))).toArray 314
 steps:∀j q,cs[j]? =some (some q)->ql wx m t1 s j q
 kept:aa t.B w wx
theorem x_.aJ{w1:World}{cs:List (Option Nat)}(k:aa af w w1)(qy:iE w m t)(hs:t.T p=some s)(e1:aq w p #[.slice a s.aV.length c,.int .i32 s.ah,.bool s.mt,.slice (some ⟨pb,0,none⟩) (m.cl.length+1) (m.cl.length+1)] 192)
 (h2:t.B pb/\t.O pb=p)(h4:cs.length=m.cl.length+1)(h5:aq w pb (cs.map fun q=>Value.pointer (q.map fun q=>(⟨q,0,none⟩:Addr))).toArray 314)(h6:∀j q,cs[j]? =some (some q)->ql w m t s j q):x_ w m t p s w1 t pb cs:=
 ⟨TG.le.refl t,rfl,qy.kept k (fun i hx=>hx.elim),fun i hi=>Or.inl hi,⟨c,a,e1.kept k (fun hx=>hx)⟩,h2,h4,h5.kept k (fun hx=>hx),fun j q hq=>(h6 j q hq).eG k (fun i hx=>hx.elim) (TG.le.refl t),k.mono (fun i hx=>hx.elim)⟩
theorem x_.qN{w2 w3:World}(k:aa af w w2)(qy:iE w m t)(hs:t.T p=some s)(e1:aq w p #[.slice a s.aV.length c,.int .i32 s.ah,.bool s.mt,.slice none 0 0] 192)(hp:w2.heap.size<=pb)(k3:aa (fun i=>i=p) w2 w3)
 (hB:aq w3 p #[.slice a s.aV.length c,.int .i32 s.ah,.bool s.mt,.slice (some ⟨pb,0,none⟩) (m.cl.length+1) (m.cl.length+1)] 192)(hP:aq w3 pb ((List.replicate (m.cl.length+1) (none:Option Nat)).map fun q=>Value.pointer (q.map fun q=>⟨q,0,none⟩)).toArray 314):
 x_ w m t p s w3 (t.JF p pb) pb (List.replicate (m.cl.length+1) none):=by
 have hT2:=qy.kept k (fun i hx=>hx.elim);have hn:¬t.B pb:=fun hx=>by have:=hT2.lt pb hx;omega
 refine⟨TG.acy hn,rfl,hT2.JF hs (e1.kept k (fun hx=>hx)) hp k3 hB hP,fun i hi=>?_,⟨c,a,hB⟩,⟨Or.inr rfl,if_pos rfl⟩,by simp,hP,fun j q hq=>?_,(k.mono (fun i hx=>hx.elim)).trans (k3.mono (fun i hx=>by rw[hx];exact(qy.st p s hs).in_))⟩
 ·rcases hi with hi|hi
  ·exact Or.inl hi
  ·have:=k.size;exact Or.inr (by omega)
 ·rw[Cr]at hq;split at hq<;>cases hq
structure Td(w:World)(g:FG)(m:MC)(t:TG)(mp:Nat)(mo:Int)(s:dt)(j:Nat)(w':World)(q:Nat):Prop where
 ex:∃(t':TG) (D':DataW Unit),t.le t'/\iE w' m t'/\lH w' mp mo t'.T D'/\ql w' m t' s j q/\∀i,t'.B i->t.B i\/w.heap.size<=i
 fA:jc w' g
 kept:aa (fun i=>t.B i\/i=mp\/i=g.fb\/i=g.sb\/i=g.bb) w w'
def K_(p pb n:Nat)(W:World):Prop:=W.cell? ⟨p,3,none⟩=some (.slice (some ⟨pb,0,none⟩) n n)/\0<=W.heap.size
def Zz(eb p:Nat)(TD:Value)(W:World):Prop:=W.cell? ⟨eb,3,none⟩=some TD/\W.cell? ⟨eb,6,none⟩=some (.pointer (some ⟨p,0,none⟩))
theorem aow{eb mp cc mn QV:Nat}{mo bh:Int}{ca:Option Addr}{QU:Option Addr}{D:DataW Unit}(hg:g.Ok)(xd:m.ms=g.ms/\m.st=g.st)(bC:0<=g.st/\g.st<g.ms.length)(hb:0<=bh/\bh<=1114111)
 (hE:aq w eb (pM g.st (.pointer (some ⟨g.fb,0,none⟩)) (o_ g.ms) (.slice ca m.cl.length cc) mo mp (.pointer (some ⟨p,0,none⟩)) (.slice QU mn QV)) 159)(dJ:mn=jo s.aV+(if s.mt then 0 else 1))(gI:2<=mo/\mo<=1000000000)(hmp:mp<w.heap.size)
 (LU:lH w mp mo t.T D)(qy:iE w m t)(hs:t.T p=some s)(hI:jc w g)(hA:J6 g t eb mp)(hC:zt w ca cb m.cl)(h_:m.cl.Pairwise (· <= ·))(fy:m.cl.length<=2000000)(hAm:∀i,t.B i->¬g.cM i):
 Calls prog 234 #[.pointer (some ⟨eb,0,none⟩),.int .i32 bh] w (SoP w g m t mp mo bh s):=by
 obtain⟨cs0,as0,RL,e1,e2,e4⟩:=(qy.st p s hs).ex;have lD:=ab e1;have Kk:=ab e4;have q_:=ab qy;have sj:=ab hs;have wv:=ab LU;have HI:=ab hI;have HA:=ab hA;have HG:=ab hg;have me:=ab xd;have Kf:=ab hAm;clear e1 e2 e4
 have S1:Hid (∀W,aa af w W->Zz eb p (.slice ca m.cl.length cc) W):=fun W k=>by
  have:=hE.kept k (fun hx=>hx);exact⟨this.cell 3,this.cell 6⟩
 have F:=ab fun(W:World) (k:aa af w W)=>alO W ca cc cb m.cl bh (hC.kept k (fun _ hx=>hx)).at_ (hC.kept k (fun _ hx=>hx)).cells h_ (by omega)
 go_in
 go_wp2_with fail
 refine j9 (Ch (by kernel_rfl) (Cc (S:=Zz eb p (.slice ca m.cl.length cc)) _ _ _ _ ?_));have ak:=S1.o w.drew (aa.refl _ _).drew;refine ai 0 7 (.pointer (some ⟨eb,0,none⟩)) ak ?_;refine ai 1 8 (.pointer (some ⟨eb,0,none⟩)) ak ?_;refine ai 2 9 (.pointer (some ⟨eb,3,none⟩)) ak ?_;refine ai 3 10 (.slice ca m.cl.length cc) ak ?_;refine ai 4 11 (.int .i32 bh) ak ?_;refine ai 6 13 (.pointer (some ⟨eb,0,none⟩)) ak ?_;refine ai 7 14 (.pointer (some ⟨eb,0,none⟩)) ak ?_;refine ai 8 15 (.pointer (some ⟨eb,6,none⟩)) ak ?_;refine ai 9 16 (.pointer (some ⟨p,0,none⟩)) ak ?_;simp only[Act.put,Aa,Ad,Ac];refine bQ 5 fun K hK=>?_
 go_simp;refine(F.o _ (aa.refl _ _).drew).mono ?_;rintro e w1 ⟨rfl,k1⟩;dsimp only;have K1:Hid (aa af w w1):=((aa.refl af w).drew).trans k1;have eR:=S1.o w1 K1.o;refine hK.o _ _ eR (fun _=>?_);clear hK K F k1;refine ai 10 5 (.int .i64 (jn m.cl bh:Int)) eR ?_;refine ai 11 6 (.pointer (some ⟨p,0,none⟩)) eR ?_;simp only[Act.put,Aa,Ad,Ac];refine At (by kernel_rfl) ?_ _;refine jy ?_;have HE:=ab hE;clear qy hs LU hI hA hg xd hAm hC hE S1 ak eR;have Gt:jn m.cl bh<=m.cl.length:=Fj;have HJ:=ab Gt;obtain⟨j,hj⟩:∃j,j=jn m.cl bh:=⟨_,rfl⟩
 rw[<-hj]at Gt⊢;have YF:=ab hj;clear hj HJ
 obtain⟨a9,n9,c9,qH⟩:∃a9 n9 c9,RL=.slice a9 n9 c9:=by
  rcases Kk.o with h|⟨pb,cs,h,_⟩
  ·exact⟨_,_,_,h⟩
  ·exact⟨_,_,_,h⟩
 subst qH;obtain⟨bz,AL⟩:∃bz:Bool,bz=a9.isNone:=⟨_,rfl⟩
 have u1:∀W,(binOp .eql 190 (.slice a9 n9 c9) (.slice none 0 0)).run prog W=.ok (.bool bz) W:=fun W=>by rw[AL];exact Lib.run_eql_slice_nil W _ _ a9 n9 c9 0 0 underlying190
 have Ym:=ab AL;clear AL;have c39:w1.cell? ⟨p,3,none⟩=some (.slice a9 n9 c9):=(lD.o.kept K1.o (fun hx=>hx)).cell 3;go_upto_if 21 with fail
 go_cut [5] (fun v5 wx=>v5=.int .i64 (j:Int)/\Hid (∃t1 pb cs,x_ w m t p s wx t1 pb cs))
 case first=>
  rcases Kk.o with e9|⟨pb,cs,e9,q2,q3,q4,q5⟩
  ·simp only[Bq]at e9;obtain⟨rfl,rfl,rfl⟩:=e9;have TN:bz=true:=Ym.o;subst TN;have B1:=lD.o.kept K1.o (fun hx=>hx);have c3:w1.cell? ⟨p,3,none⟩=some (.slice none 0 0):=B1.cell 3;have f3:w1.frozen? ⟨p,3,none⟩=false:=B1.frozen 3;have d3:w1.cell? ⟨eb,3,none⟩=some (.slice ca m.cl.length cc):=(HE.o.kept K1.o (fun hx=>hx)).cell 3;have F:=ab (akv w1 ca m.cl.length cc (by omega));obtain⟨i0,cS,dm,dp,c_⟩:=Bp Tryz.aj5;obtain⟨n,hn⟩:∃n,n=m.cl.length+1:=⟨_,rfl⟩
   obtain⟨Z,hZ⟩:∃Z,Z=madeCells (Value.pointer none).cells ((n:Int).toNat*i0.size):=⟨_,rfl⟩
   have hn9:n<=2000001:=by omega
   have mk:∀W:World,(Instr.makeSlice 190 (.int .i64 (n:Int)) (.int .i64 (n:Int))).run prog W=.ok (.slice (some ⟨W.heap.size,0,none⟩) n n) (W.alloc (.cells Z 314)):=fun W=>by
    have:=run_makeSlice (P:=prog) W 190 314 i0 (.pointer none) underlying190 cS dm .i64 .i64 (n:Int) (n:Int) (by omega) (Ce _) (by rw[dp];omega) (by rw[c_];omega) (by omega);rw[<-hZ]at this;simpa using this
   have HZ:Hid (Z=((List.replicate n (none:Option Nat)).map fun q=>Value.pointer (q.map fun q=>(⟨q,0,none⟩:Addr))).toArray):=by show _=_;rw[hZ,dp];simp only[Nat.mul_one,Ay];exact akU n
   have HN:=ab hn;rw[<-hn]at F
   have ax:Hid (∀(w2 w3:World),aa af w w2->w3=(w2.setCell ⟨p,3,none⟩ (.slice (some ⟨w2.heap.size,0,none⟩) n n)).alloc (.cells Z 314)->∃t1 pb cs,x_ w m t p s w3 t1 pb cs):=fun w2 w3 k e=>by
    have jX:=(lD.o.kept k (fun hx=>hx)).lt;have b1:=((lD.o.kept k (fun hx=>hx)).setCell 3 (.slice (some ⟨w2.heap.size,0,none⟩) n n)).alloc (.cells Z 314)
    have b2:aq ((w2.setCell ⟨p,3,none⟩ (.slice (some ⟨w2.heap.size,0,none⟩) n n)).alloc (.cells Z 314)) w2.heap.size Z 314:=by
     have:=aq.new (w2.setCell ⟨p,3,none⟩ (.slice (some ⟨w2.heap.size,0,none⟩) n n)) Z 314;simpa using this
    rw[HN.o]at b1;rw[e];refine⟨_,w2.heap.size,_,x_.qN k q_.o sj.o lD.o (Ab _) (((aa.refl (fun i=>i=p) w2).setCell (p:=⟨p,3,none⟩) (Or.inl rfl) _).alloc _) ?_ ?_⟩
    ·rw[HN.o];exact b1
    ·rw[<-HN.o,<-HZ.o];exact b2
   clear B1 lD Kk q_ sj wv HI HA HG me Kf HE hZ hn cS dm dp c_ HZ;go_wp2_with fail;refine(F.o).mono ?_;rintro e w2 ⟨rfl,k2⟩;have td:=K1.o.trans k2;have jX:=Bk _ _ c3;have zO:w2.cell? ⟨p,3,none⟩=some (.slice none 0 0):=(k2.cell (p:=⟨p,3,none⟩) jX (fun hx=>hx)).trans c3;have f3':w2.frozen? ⟨p,3,none⟩=false:=(k2.frozen (p:=⟨p,3,none⟩) jX (fun hx=>hx)).trans f3;have abS:=Bk _ _ zO;have f3a:(w2.alloc (.cells Z 314)).frozen? ⟨p,3,none⟩=false:=(((aa.refl af w2).alloc (.cells Z 314)).frozen (p:=⟨p,3,none⟩) abS (fun hx=>hx)).trans f3';have c3a:(w2.alloc (.cells Z 314)).cell? ⟨p,3,none⟩=some (.slice none 0 0):=(((aa.refl af w2).alloc (.cells Z 314)).cell (p:=⟨p,3,none⟩) abS (fun hx=>hx)).trans zO;have uE:=ab (ax.o w2 _ td rfl);clear F ax K1 c3 f3 d3 k2 td;go_wp2_with fail;go_meet
   case rel=>exact⟨rfl,uE⟩
  ·simp only[Bq]at e9;obtain⟨rfl,rfl,rfl⟩:=e9;have TN:bz=false:=Ym.o;subst TN;have B1:=lD.o.kept K1.o (fun hx=>hx);have c3:w1.cell? ⟨p,3,none⟩=some (.slice (some ⟨pb,0,none⟩) (m.cl.length+1) (m.cl.length+1)):=B1.cell 3;have uE:Hid (∃t1 pb cs,x_ w m t p s w1 t1 pb cs):=⟨t,pb,cs,x_.aJ K1.o q_.o sj.o lD.o q2 q3 q4 q5⟩;clear B1 lD Kk q_ sj wv HI HA HG me Kf HE q4 q5;go_wp2_with fail;go_meet
   case rel=>exact⟨rfl,uE⟩
 case rest=>
  obtain⟨rfl,HX⟩:=hcut;obtain⟨t1,pb,cs,L⟩:=HX.o;have HL:=ab L;clear L HX;have AY:t.B p:=(q_.o.st p s sj.o).in_;have HKT:Hid (∀i,t.B i->i<w.heap.size):=q_.o.lt;have hd:eb<w.heap.size:=HE.o.lt;have hdm:∀i,t.B i->i≠eb/\i≠mp/\i≠g.fb/\i≠g.sb/\i≠g.bb:=fun i hi=>⟨fun e=>HA.o.eB (by rw[<-e];exact hi),fun e=>HA.o.mB (by rw[<-e];exact hi),fun e=>HA.o.fB.1 (by rw[<-e];exact hi),fun e=>HA.o.fB.2.1 (by rw[<-e];exact hi),fun e=>HA.o.fB.2.2 (by rw[<-e];exact hi)⟩
  have Sr:=ab hdm;clear hdm;have Of:=ab (HE.o.kept HL.o.kept HA.o.eB);have Kx:Hid (lH wc mp mo t1.T D):=by rw[HL.o.T];exact wv.o.kept HL.o.kept HA.o.mB
  have Kq:=ab (HI.o.kept HL.o.kept (fun i hi=>⟨by have:=Sr.o i hi;omega,Kf.o i hi⟩));have KL:Hid (t1.T p=some s):=by rw[HL.o.T];exact sj.o
  have ap4:g.fb<w.heap.size/\g.sb<w.heap.size/\g.bb<w.heap.size:=by
   obtain⟨_,_,_,_,_,x1,⟨x2,_⟩,⟨x3,_⟩⟩:=HI.o.ex;exact⟨x1.lt,x2.lt,x3.lt⟩
  have HMX:Hid (∀i,g.cM i->¬w.heap.size<=i):=fun i hi hx=>by have:=uv HI.o hi;omega
  have uL:Hid (∀i,t1.B i->i≠eb/\i≠mp/\i≠g.fb/\i≠g.sb/\i≠g.bb):=fun i hi=>by
   rcases HL.o.new i hi with h|h
   ·exact Sr.o i h
   ·omega
  have N9:Hid (J6 g t1 eb mp):=⟨HA.o.em,HA.o.ef,HA.o.mf,HA.o.mm,fun h=>(uL.o _ h).1 rfl,fun h=>(uL.o _ h).2.1 rfl,fun h=>(uL.o _ h).2.2.1 rfl,fun h=>(uL.o _ h).2.2.2.1 rfl,fun h=>(uL.o _ h).2.2.2.2 rfl⟩;have U_:j<cs.length:=by have:=HL.o.len;omega
  have Ks:=ab U_;obtain⟨n,hn⟩:∃n,n=m.cl.length+1:=⟨_,rfl⟩
  have HN:=ab hn;have vC:(j:Int)<(n:Int):=by omega
  obtain⟨c0,a0,b0⟩:=HL.o.aj;have c3:wc.cell? ⟨p,3,none⟩=some (.slice (some ⟨pb,0,none⟩) n n):=by rw[hn];exact b0.cell 3
  obtain⟨oq,Vu⟩:∃oq,cs[j]? =some oq:=⟨cs[j],Ae U_⟩
  have cj:wc.cell? ⟨pb,j,none⟩=some (.pointer (oq.map fun q=>⟨q,0,none⟩)):=by
   rw[HL.o.row.cell j];simp[Vu]
  have fj:wc.frozen? ⟨pb,j,none⟩=false:=HL.o.row.frozen j;have Ky:=ab Vu;obtain⟨bo,yp⟩:∃bo:Bool,bo=oq.isNone:=⟨_,rfl⟩
  have HBO:=ab yp;have cjv:wc.cell? ⟨pb,j,none⟩=some (.pointer (oq.map fun q=>⟨q,0,none⟩)):=cj;obtain⟨ov,Mx⟩:∃ov:Option Addr,ov=oq.map fun q=>⟨q,0,none⟩:=⟨_,rfl⟩
  rw[<-Mx]at cj;have SI:=ab Mx;have YI:=HL.o.kept;have hK:Hid (aa (fun i=>t.B i\/i=mp\/i=g.fb\/i=g.sb\/i=g.bb) w wc):=YI.mono (fun i hi=>Or.inl hi);clear hn Vu U_ YI b0 q_ wv HI HA HE lD Kk sj K1 Sr Gt;have cjx:=ab cjv;clear cjv yp Mx u1 c39;go_upto_if 38 with fail
  go_cut [5] (fun v5 wx=>v5=.int .i64 (j:Int)/\∃q,Hid (Td w g m t mp mo s j wx q)/\wx.cell? ⟨p,3,none⟩=some (.slice (some ⟨pb,0,none⟩) n n)/\wx.cell? ⟨pb,j,none⟩=some (.pointer (some ⟨q,0,none⟩)))
  case first=>
   cases oq with
   |some q=>
    have ax:Hid (Td w g m t mp mo s j wc q):=⟨⟨t1,D,HL.o.le,HL.o.nf,Kx.o,HL.o.steps j q Ky.o,HL.o.new⟩,Kq.o,hK.o⟩;have TO:ov=some ⟨q,0,none⟩:=SI.o;subst TO;have cj':=ab cj;clear cj HL Of Kx Kq KL uL N9 Ks Ky hK;go_wp2_with fail;go_meet
    case rel=>exact⟨rfl,q,ax,c3,cj'.o⟩
   |none=>
    have TO:ov=none:=SI.o;subst TO
    have WO:Hid (∀W,aa af wc W->Calls prog 237 #[.pointer (some ⟨eb,0,none⟩),.pointer (some ⟨p,0,none⟩),.int .i32 bh] W (OO W g m t1 mp mo bh s)):=fun W k=>
     apA HG.o me.o bC hb (Of.o.kept k (fun hx=>hx)) dJ gI (by have:=HL.o.kept.size;have:=k.size;omega) (Kx.o.kept k (fun hx=>hx)) (HL.o.nf.kept k (fun i hx=>hx.elim)) KL.o (Kq.o.new k) N9.o
    have S5:Hid (∀W,aa af wc W->K_ p pb n W):=fun W k=>by
     obtain⟨c0,a0,b0⟩:=HL.o.aj;refine⟨?_,Ao _⟩;rw[HN.o];exact(b0.kept k (fun hx=>hx)).cell 3
    have CV:Hid (∀(W w4:World) (e:Ending),aa af wc W->OO W g m t1 mp mo bh s e w4->∃q,e=.returned (.pointer (some ⟨q,0,none⟩))/\K_ p pb n w4/\(w4.frozen? ⟨pb,j,none⟩=false/\∃v,w4.cell? ⟨pb,j,none⟩=some v)/\Td w g m t mp mo s j (w4.setCell ⟨pb,j,none⟩ (.pointer (some ⟨q,0,none⟩))) q/\K_ p pb n (w4.setCell ⟨pb,j,none⟩ (.pointer (some ⟨q,0,none⟩)))/\(w4.setCell ⟨pb,j,none⟩ (.pointer (some ⟨q,0,none⟩))).cell? ⟨pb,j,none⟩=some (.pointer (some ⟨q,0,none⟩))):=fun W w4 e k P=>by
     obtain⟨⟨q,t',D',rfl,p1,p2,p3,p4,p5⟩,p6,p7⟩:=P;have dX:=HL.o.O;have Mu:=uL.o pb dX.1;have MD:=uL.o p (HL.o.le.B p AY);obtain⟨c0,a0,b0⟩:=HL.o.aj;have b4:=(b0.kept k (fun hx=>hx)).kept p7 (fun hx=>by omega);have r4:=(HL.o.row.kept k (fun hx=>hx)).kept p7 (fun hx=>by omega);have az:p≠pb:=Lj b4 r4 (by decide);have hr:=r4.setCell j (.pointer (some ⟨q,0,none⟩));have aP:=k.size;have VE:=HL.o.kept.size
     have oj:(w4.setCell ⟨pb,j,none⟩ (.pointer (some ⟨q,0,none⟩))).cell? ⟨pb,j,none⟩=some (.pointer (some ⟨q,0,none⟩)):=by
      rw[hr.cell j];have:=Ks.o;simp[this]
     have S4:∀W',aa (fun i=>i=pb) w4 W'->K_ p pb n W':=fun W' k'=>by
      refine⟨?_,Ao _⟩;rw[HN.o];exact(b4.kept k' az).cell 3
     have kS:aa (fun i=>i=pb) w4 (w4.setCell ⟨pb,j,none⟩ (.pointer (some ⟨q,0,none⟩))):=(aa.refl (fun i=>i=pb) w4).setCell (p:=⟨pb,j,none⟩) (Or.inl rfl) _;rw[<-YF.o]at p4;refine⟨q,rfl,S4 _ (aa.refl _ _),⟨r4.frozen j,.pointer none,by rw[r4.cell j];simp[Ky.o]⟩,⟨⟨t',D',HL.o.le.trans p1,?_,p3.kept kS (fun hx=>by omega),p4.l8 r4 (by decide) (by decide) kS (TG.le.refl _),fun i hi=>?_⟩,?_,?_⟩,S4 _ kS,oj⟩
     ·exact p2.set (s:=s) (b:=p) (p1.T p s KL.o) r4 ⟨p1.B _ dX.1,(p1.O _ dX.1).trans dX.2⟩ Ks.o p4
     ·rcases p5 i hi with h|h
      ·exact HL.o.new i h
      ·exact Or.inr (by omega)
     ·exact p6.kept kS (fun i hi=>by
       rw[hi];refine⟨by omega,fun hx=>?_⟩;rcases HL.o.new pb dX.1 with h|h
       ·exact Kf.o pb h hx
       ·exact HMX.o pb hx h)
     ·refine((hK.o.bZ (k.mono (S':=af) (fun i hx=>hx)) (fun i _ hx=>hx.elim)).bZ p7 (fun i _ hx=>Or.inr hx)).setCell (p:=⟨pb,j,none⟩) ?_ _;rcases HL.o.new pb dX.1 with h|h
      ·exact Or.inl (Or.inl h)
      ·exact Or.inr h
    clear HL Of Kx Kq KL uL N9 Ks Ky hK cjx SI HBO HG me Kf;go_wp2_with fail;refine j9 (Ch (by kernel_rfl) (Cc (S:=K_ p pb n) _ _ _ _ ?_));have ak:=S5.o wc.drew (aa.refl _ _).drew;refine ai 0 39 (.pointer (some ⟨p,0,none⟩)) ak ?_;refine ai 1 40 (.pointer (some ⟨p,0,none⟩)) ak ?_;refine ai 2 41 (.pointer (some ⟨p,3,none⟩)) ak ?_;refine ai 3 42 (.slice (some ⟨pb,0,none⟩) n n) ak ?_;refine ai 4 43 (.int .i64 (j:Int)) ak ?_;refine ai 5 44 (.pointer (some ⟨eb,0,none⟩)) ak ?_;refine ai 6 45 (.pointer (some ⟨p,0,none⟩)) ak ?_;refine ai 7 46 (.int .i32 bh) ak ?_;simp only[Act.put,Aa,Ad,Ac];refine bQ 8 fun K hK=>?_
    go_simp;refine(WO.o _ (aa.refl _ _).drew).mono ?_;intro e w4 P;obtain⟨q,rfl,cx,⟨f4,v4,c4⟩,FF,o9,cq⟩:=CV.o _ w4 e (aa.refl _ _).drew P;dsimp only;have DE:=ab FF;have HCQ:=ab cq;have xX:=ab o9;refine hK.o _ _ cx (fun _=>?_);clear hK K WO S5 CV P FF cq o9 ak c3 fj cj;refine ai 9 48 (.pointer (some ⟨pb,j,none⟩)) cx ?_;simp only[Act.put,Aa,Ad,Ac];refine bQ 10 fun K hK=>?_
    go_simp;refine hK.o _ _ xX.o (fun _=>?_);clear hK K;refine At (by kernel_rfl) ?_ _;refine jy ?_;go_wp2_with fail;go_meet
    case rel=>exact⟨rfl,q,DE,xX.o.1,HCQ.o⟩
  case rest=>
   obtain⟨rfl,q,HF,zO,cj'⟩:=hcut;clear c3 cj fj hK HL Of Kx Kq KL uL N9 Ks Ky;go_wp2_with fail;go_ret;obtain⟨⟨t',D',f1,f2,f3,f4,f5⟩,f6,f7⟩:=HF.o;exact⟨⟨q,t',D',rfl,f1,f2,f3,by rw[<-YF.o];exact f4,f5⟩,f6,f7⟩
