/- Package marks -/
import Derived.Test.YtpdnofhackjfdaaGreatDoorP37
set_option linter.all false
set_option maxRecDepth 100000
set_option maxHeartbeats 8000000
namespace Go.Proofs.YtpdnofhackjfdaaGreatDoor
open Go.Proofs.Tryz
open Go.RowKit Go.Sort
variable {g:FG} {cl l rs ix:List Int} {ms:List MS} {m:MC} {s:dC} {base c cb k p pb:Nat} {a:Option Addr} {S:bI} {t:TG} {v:Value} {w:World}
structure AE(w:World)(a:Option Addr)(cb:Nat)(cl:List Int):Prop where
 at_:cl≠ []->a=some (GB cb 0)/\cb<w.heap.size
 cells:∀i,(h:i<cl.length)->w.cell? (GB cb i)=some (.int .i32 cl[i])
theorem AE.kept{w':World}{K:Nat->Prop}(h:AE w a cb cl)(k:aa K w w')(hK:cl≠ []->¬K cb):AE w' a cb cl:=
 ⟨fun hl=>⟨(h.at_ hl).1,Ar (h.at_ hl).2 k.size⟩,fun i hi=>by
   have aB:cl≠ []:=by intro e;subst e;simp at hi
   exact(k.cell (p:=(GB cb i)) (h.at_ aB).2 (hK aB)).trans (h.cells i hi)⟩
def jT(ms:List MS)(rs:List Int)(k:Nat):Prop:=∀(u:Nat) (m:MS),u<k->ms[u]? =some m->(m.kind=1->∃S,(∀c,0<=c->c<=1114111->cu S c=fW m.sp m.fo m.nt c)/\uZ rs S)/\(m.kind=2->∃S,(∀c,0<=c->c<=1114111->cu S c=kM c)/\uZ rs S)
theorem jT.zero(ms:List MS):jT ms [] 0:=fun u m h=>by omega
theorem uZ.mono{a b:List Int}(h:uZ a S)(hs:∀x∈a,x∈b):uZ b S:=fun s q_=>⟨hs _ (h s q_).1,hs _ (h s q_).2⟩
theorem aa6(S:bI):uZ (rP S) S:=fun s hs=>by
 unfold rP;exact⟨Ez.2 ⟨s,hs,by simp⟩,Ez.2 ⟨s,hs,by simp⟩⟩
theorem jT.fp{rD:List Int}(h:jT ms rs k)(hs:∀x∈rs,x∈rD):jT ms rD k:=fun u m hu hm=>
 ⟨fun e=>by obtain⟨S,h1,h2⟩:=(h u m hu hm).1 e;exact⟨S,h1,h2.mono hs⟩,fun e=>by obtain⟨S,h1,h2⟩:=(h u m hu hm).2 e;exact⟨S,h1,h2.mono hs⟩⟩
theorem jT.eQ(h:jT ms rs k)(hk:k<ms.length)(h1:ms[k].kind=1->∃S,(∀c,0<=c->c<=1114111->cu S c=fW ms[k].sp ms[k].fo ms[k].nt c)/\uZ rs S)(h2:ms[k].kind=2->∃S,(∀c,0<=c->c<=1114111->cu S c=kM c)/\uZ rs S):jT ms rs (k+1):=fun u m hu hm=>by
 by_cases e:u=k
 ·subst e;rw[Ae hk]at hm
  cases hm;exact⟨h1,h2⟩
 ·exact h u m (by omega) hm
theorem jT.take(h:jT ms rs k)(hk:k<ms.length)(hS:∀c,0<=c->c<=1114111->cu S c=fW ms[k].sp ms[k].fo ms[k].nt c)(h1:ms[k].kind=1)(he:ix=rP S):jT ms (rs++ix) (k+1):=
 (h.fp (fun x hx=>Ap.2 (Or.inl hx))).eQ hk (fun _=>⟨S,hS,(aa6 S).mono (fun x hx=>Ap.2 (Or.inr (by rw[he];exact hx)))⟩) (fun e=>by rw[h1]at e;cases e)
theorem jT.eM(h:jT ms rs k)(hk:k<ms.length)(hS:∀c,cu S c=kM c)(h1:ms[k].kind=2)(he:ix=rP S):jT ms (rs++ix) (k+1):=
 (h.fp (fun x hx=>Ap.2 (Or.inl hx))).eQ hk (fun e=>by rw[h1]at e;cases e) (fun _=>⟨S,fun c _ _=>hS c,(aa6 S).mono (fun x hx=>Ap.2 (Or.inr (by rw[he];exact hx)))⟩)
theorem jT.skip(h:jT ms rs k)(hk:k<ms.length)(h1:¬ms[k].kind=1)(h2:¬ms[k].kind=2):jT ms rs (k+1):=h.eQ hk (fun e=>absurd e h1) (fun e=>absurd e h2)
theorem jT.done(h:jT ms rs ms.length)(hs:∀x∈rs,x∈cl):tO ms cl:=
 ⟨fun u m hm hk=>by obtain⟨S,h1,h2⟩:=(h u m (Ai.1 hm).1 hm).1 hk;exact⟨S,h1,h2.mono hs⟩,fun u m hm hk=>by obtain⟨S,h1,h2⟩:=(h u m (Ai.1 hm).1 hm).2 hk;exact⟨S,h1,h2.mono hs⟩⟩
theorem ap6(c:Int):kM c=cu (mi 119) c:=by
 unfold kM mi;rw[if_neg (by decide),if_pos rfl];simp only[cu,List.any_cons,List.any_nil,Bool.or_false];rw[Bi];simp only[Bool.or_eq_true,Cq,A5,Gj];omega
theorem aa7(h:∀x∈rs,-1<=x/\x<=1114112)(hS:dH S)(e:ix=rP S):∀x∈rs++ix,-1<=x/\x<=1114112:=fun x hx=>by
 rcases Ap.1 hx with hx|hx
 ·exact h x hx
 ·rw[e]at hx;unfold rP at hx;obtain⟨s,hs,hx⟩:=Ez.1 hx;have:=hS s hs;simp only[Ct,Fq,or_false]at hx;omega
theorem aoa(h:l.Pairwise (· < ·))(h0:∀x∈l,-1<=x):∀k,(hk:k<l.length)->(k:Int)-1<=l[k]:=by
 intro k;induction k with
 |zero=>intro hk;have:=h0 _ (A6 hk);omega
 |succ k ih=>
  intro hk;have h1:=ih (by omega);have h2:=Cj.1 h k (k+1) (by omega) hk (by omega);omega
theorem ah3(h:l.Pairwise (· < ·))(h0:∀x∈l,-1<=x/\x<=1114112):l.length<=2000000:=by
 by_cases e:l.length=0
 ·omega
 ·have h1:=aoa h (fun x hx=>(h0 x hx).1) (l.length-1) (by omega);have h2:=(h0 _ (A6 (show l.length-1<l.length by omega))).2;omega
def Za(w:World)(ms:List MS):Ending->World->Prop:=fun e w'=>∃(cl:List Int) (a:Option Addr) (c cb:Nat),e=.returned (.slice a cl.length c)/\AE w' a cb cl/\cl.Pairwise (· <= ·)/\tO ms cl/\cl.length<=2000000/\(cl≠ []->w.heap.size<=cb)/\aa ai w w'
def aap(w:World)(v:Value)(rs:List Int):Prop:=(v=.slice none 0 0/\rs=[])\/∃g cap d,v=.slice (some (GB g 0)) rs.length cap/\iU w g 0 cap d/\d.size=rs.length/\SortedIn ltInt 0 rs.length d/\((∀x∈rs,∃s,s<d.size/\d[s]! =x)/\∀s,s<d.size->d[s]! ∈rs)/\rs.length<1000000000/\rs.length<=cap/\cap<=maxLen
theorem aob(h:w.ownsRow base 21 1 v rs.length (nj rs)):(v=.slice none 0 0/\rs.length=0)\/∃g cap,v=.slice (some (GB g 0)) rs.length cap/\base<=g/\iU w g 0 cap rs.toArray/\rs.length<=cap/\cap<=maxLen:=by
 obtain⟨hx,h1⟩:=h;rcases h1 with⟨hv,h0⟩|⟨g,cap,aO,rfl,a1,a2,a3,a4,a5,a6⟩
 ·exact Or.inl ⟨hv,h0⟩
 ·refine Or.inr ⟨g,cap,rfl,a1,⟨aO,a2,by omega,by simp;omega,fun t ht=>?_⟩,a3,a4⟩;have J0:t<rs.length:=by simpa using ht
  have:(aO.toList.take (rs.length*1))[t]? =some (.int .i32 rs[t]):=by rw[a6];simp[nj,J0]
  rw[Av (by omega)]at this;simp[J0]at this⊢;exact this
theorem aoN(h:w.ownsRow base 21 1 v rs.length (nj rs))(hn:rs.length<1000000000):
 Calls prog 99 #[v] w fun e w'=>e=.returned (.tuple #[])/\aa (fun i=>v.ownBlock=some i) w w'/\aap w' v rs:=by
 rcases aob h with⟨hv,h0⟩|⟨g3,cap,hv,hg3,dU,za,hcm⟩
 ·subst hv;refine(aoM w).mono ?_;rintro e w' ⟨rfl,rfl⟩;exact⟨rfl,aa.refl _ _,Or.inl ⟨rfl,Aw.1 h0⟩⟩
 ·subst hv;refine(aoP (n:=rs.length) (by simp) dU hn).mono ?_;rintro e w' ⟨rfl,c,hp,hs,P⟩;refine⟨rfl,P.kept.mono (fun i hi=>by subst hi;rfl),Or.inr ⟨g3,cap,c,rfl,P.row,by rw[hp.1];simp,hs,⟨fun x hx=>?_,fun s hs=>?_⟩,hn,za,hcm⟩⟩;rotate_left
  ·have Nz:=hp.2.2;have e1:(rs.toArray.extract 0 rs.length).toList=rs:=(by simp);rw[e1]at Nz;have aW:c.size=rs.length:=by rw[hp.1];simp
   refine Nz.mem_iff.1 ?_;rw[<-aW];simp only[Array.extract_size];simp[hs]
  have Nz:=hp.2.2;have e1:(rs.toArray.extract 0 rs.length).toList=rs:=by simp
  rw[e1]at Nz;have uJ:=Nz.mem_iff.2 hx;have aW:c.size=rs.length:=by rw[hp.1];simp
  rw[<-aW]at uJ;simp only[Array.extract_size]at uJ;obtain⟨s,cZ,gg⟩:=C6 uJ;refine⟨s,by simpa using cZ,?_⟩;rw[<-gg];simp at cZ⊢;simp[cZ]
theorem ahQ(h:aap w v rs):
 Calls prog 100 #[v] w fun e w'=>∃(cl:List Int) (a:Option Addr) (c cb:Nat),e=.returned (.slice a cl.length c)/\(cl≠ []->a=some (GB cb 0)/\cb<w'.heap.size)/\(∀i,(h:i<cl.length)->w'.cell? (GB cb i)=some (.int .i32 cl[i]))/\cl.Pairwise (· < ·)/\(∀x∈rs,x∈cl)/\(∀x∈cl,x∈rs)/\(cl≠ []->v.ownBlock=some cb)/\aa (fun i=>v.ownBlock=some i) w w':=by
 rcases h with⟨hv,he⟩|⟨g,cap,d,hv,h1,h2,h3,h4,h5,h6,h7⟩
 ·subst hv he;refine(ahP w).mono ?_;rintro e w' ⟨rfl,rfl⟩;exact⟨[],none,0,0,rfl,fun h=>absurd rfl h,fun i hi=>by simp at hi,List.Pairwise.nil,fun x hx=>by simp at hx,fun x hx=>by simp at hx,fun h=>absurd rfl h,aa.refl _ _⟩
 ·subst hv;refine(ahR h2 h3 h1 h5 ⟨h6,h7⟩).mono ?_;rintro e w' ⟨cl,rfl,c1,c2,c3,c4,c5⟩;exact⟨cl,_,cap,g,rfl,fun _=>⟨rfl,Ar h1.lt c5.size⟩,c1,c2,fun x hx=>by obtain⟨s,s1,s2⟩:=h4.1 x hx;rw[<-s2];exact c3 s s1,fun x hx=>by obtain⟨s,s1,s2⟩:=c4 x hx;rw[s2];exact h4.2 s s1,fun _=>rfl,c5.mono (fun i hi=>by subst hi;rfl)⟩
theorem ahF{lo hi:Nat}{u x:Int}(h:o_ w lo hi base v ms)(Nh:hi<=w.heap.size)(aB:0<ms.length)(Hp:ms.length<=4001)(hW:∀(u:Nat) (m:MS),ms[u]? =some m->m.kind=1->jX m.sp):
 Calls prog 71 #[.agg (XF v u x)] w (Za w ms):=by
 have HWF:=ab hW;clear hW;obtain⟨i0,cW,dm,du,de⟩:=Bo Tryz.Xj;obtain⟨g,c,rfl,hg,hc,bD⟩:=h.array aB;have lS:=ab bD;have B0:=au.new w #[.slice (some (GB g 0)) ms.length c,GW u,GW x] 73;have HB:=ab B0;have K0:Hid (aa ai w (w.alloc (.cells #[.slice (some (GB g 0)) ms.length c,GW u,GW x] 73))):=(aa.refl ai w).alloc _;clear bD B0 h;simp only[XF];go_enter func71,ntmps71;go_wp2_with fail;go_loopg [3,9] ms.length (fun kk v3 i wr=>∃(k:Nat) (rs:List Int),i=GW (k:Int)/\k<=ms.length/\kk=ms.length-k/\Hid (rs.length<=12000*k)/\Hid (jT ms rs k/\∀x∈rs,-1<=x/\x<=1114112)/\Hid (wr.ownsRow (w.heap.size+1) 21 1 v3 rs.length (nj rs))/\Hid (aa ai (w.alloc (.cells #[.slice (some (GB g 0)) ms.length c,GW u,GW x] 73)) wr))
 case atStart=>exact⟨0,[],rfl,Al _,rfl,ab (by simp),⟨jT.zero ms,fun x hx=>by simp at hx⟩,A8 _ _ _ _,aa.refl _ _⟩
 case round=>
  obtain⟨k,rs,rfl,hk,eE,HL,vd,HR,HK⟩:=hrel;have KW:=ab (K0.o.trans HK.o);have ksz:=HK.o.size;simp only[iy]at ksz;have b0:wr.cell? (GB w.heap.size 0)=some (.slice (some (GB g 0)) ms.length c):=(HB.o.kept HK.o (fun hx=>hx)).cell 0;obtain⟨fY,c3,rfl⟩:=cw HR.o;by_cases az:k<ms.length
  ·have hit:(k:Int)<(ms.length:Int):=(by omega);have Wl:¬((ms.length:Int)<=(k:Int)):=(by omega);obtain⟨q,hq,mG⟩:=lS.o k az;have pG:=hq.kept KW.o (fun _ _ _ hx=>hx) Nh;have d0:wr.cell? ⟨g,k*6,none⟩=some (GW q.k):=(KW.o.cell (p:=⟨g,k*6,none⟩) hg (fun hx=>hx)).trans (mG 0 (by omega));have d1:wr.cell? ⟨g,k*6+1,none⟩=some (.slice q.sa q.sn q.sc):=(KW.o.cell (p:=⟨g,k*6+1,none⟩) hg (fun hx=>hx)).trans (mG 1 (by omega));have HO:Hid (∀i,(Value.slice fY rs.length c3).ownBlock=some i->w.heap.size+1<=i):=(fun i hi=>(dw HR.o hi).1);have qE:Hid (∀W,aa ai wr W->W.ownsRow (w.heap.size+1) 21 1 (.slice fY rs.length c3) rs.length (nj rs)):=fun W kW=>bU HR.o kW (fun i _ hx=>hx)
   have FN:Hid (∀(W w7:World) (v':Value) (ix:List Int) (m:Nat),aa ai wr W->ix.length=m->m<=12000->w7.ownsRow (w.heap.size+1) 21 1 v' (rs.length+m) (nj rs++nj ix)->W.grownBy w7 (Value.slice fY rs.length c3).ownBlock->
    ∃rD:List Int,rD=rs++ix/\rD.length<=12000*(k+1)/\w7.ownsRow (w.heap.size+1) 21 1 v' rD.length (nj rD)/\aa ai (w.alloc (.cells #[.slice (some (GB g 0)) ms.length c,GW u,GW x] 73)) w7):=by
    intro W w7 v' ix m kW hm Rp ho nT;refine⟨rs++ix,rfl,by have:=HL.o;simp;omega,by rw[ae2,Aj,hm];exact ho,((HK.o.trans kW)).eP nT (fun j hj=>Or.inr (by have:=HO.o j hj;simp;omega))⟩
   by_cases k1:q.k=1
   ·have WM:(q.k==1)=true:=(by simp[k1]);obtain⟨S,bs,s1,s2,s3,s4,s5,s6⟩:=pG.set (by rw[<-pG.k];exact k1);rw[s1]at d1;have oe:Hid (∀ix:List Int,ix=rP S->jT ms (rs++ix) (k+1)/\∀x∈rs++ix,-1<=x/\x<=1114112):=(fun ix e=>⟨vd.o.1.take az (s4.YR (HWF.o k ms[k] (Ae az) (by rw[<-pG.k];exact k1))).2 (by rw[<-pG.k];exact k1) e,aa7 vd.o.2 s5 e⟩);have F:=ab (UT (c:=q.sc) (ao:=q.sa) (bs:=bs) (fun aB=>(s2 aB).1) s3 s5 s6 (fun aB=>by have:=(s2 aB).2;omega));clear hq pG mG k1 s1 s2 s3 s4 s5 HR;go_wp2_with fail;refine(F.o).mono ?_;rintro e w4 ⟨v4,rfl,ix,o4,l4,Mh,k4⟩;obtain⟨jm,c4,rfl⟩:=cw o4;have O4:=ab o4;have Tw:=ab Mh;clear Mh;have L4:Hid (ix.length<=12000):=ab (by omega);have yG:=ab k4;clear F o4 l4 k4;go_wp2_with (at_builtin;refine af7 rfl _ _ 96 rfl (w.heap.size+1) wr.heap.size 21 i0 _ 4 underlying96 cW dm du de rfl _ _ _ rfl (qE.o _ yG.o) _ ix.length _ rfl O4.o (Yn _) ?c1 ?c2 ?c3 ?_)
    case c1=>have:=HL.o;have:=L4.o;unfold maxLen;omega
    case c2=>have:=HL.o;have:=L4.o;omega
    case c3=>have:=yG.o.size;omega
    intro v' w7 ho nT tm;obtain⟨jl,c',rfl⟩:=cw ho;obtain⟨rD,r0,r1,r2,r3⟩:=FN.o _ _ _ ix ix.length yG.o rfl (by have:=L4.o;omega) ho nT;have r2':=r2;obtain⟨UD,c5,e5⟩:=cw r2;have R0:Hid (jT ms rD (k+1)/\∀x∈rD,-1<=x/\x<=1114112):=by rw[r0];exact oe.o ix Tw.o
    have R1:=ab r1;have R2:=ab r2;have R3:=ab r3;clear ho nT tm r0 r1 r2 r3 FN qE HO O4 yG L4 r2' e5;go_wp2_with fail;go_roundg (ms.length-(k+1))
    case measure=>omega
    case rel=>exact⟨k+1,rD,by simp,by omega,rfl,R1,R0,R2,R3⟩
   ·have WM:(q.k==1)=false:=(by simp[k1]);by_cases k2:q.k=2
    ·have kE:(q.k==2)=true:=(by simp[k2]);have K2E:Hid (ms[k].kind=2):=by rw[<-pG.k];exact k2
     clear hq pG mG k1 k2 HR;go_wp2_with fail;refine(ap7 wr).mono ?_;rintro e w3 ⟨v3,rfl,S,o3,r3,l3,in3,k3⟩;have oe:Hid (∀ix:List Int,ix=rP S->jT ms (rs++ix) (k+1)/\∀x∈rs++ix,-1<=x/\x<=1114112):=(fun ix e=>⟨vd.o.1.eM az (fun c=>(in3 c).trans (ap6 c).symm) K2E.o e,aa7 vd.o.2 r3 e⟩);have F:=ab (ah4 o3 r3 (by omega));have K3:=ab k3;obtain⟨aqg,AZ,rfl⟩:=cw o3;clear o3 r3 k3;go_wp2_with fail;refine(F.o).mono ?_;rintro e w4 ⟨v4,rfl,ix,o4,l4,Mh,k4⟩;obtain⟨jm,c4,rfl⟩:=cw o4;have O4:=ab o4;have Tw:=ab Mh;clear Mh;have L4:Hid (ix.length<=12000):=ab (by omega);have yG:=ab (K3.o.trans k4);clear F o4 l4 k4 K3;go_wp2_with (at_builtin;refine af7 rfl _ _ 96 rfl (w.heap.size+1) w3.heap.size 21 i0 _ 4 underlying96 cW dm du de rfl _ _ _ rfl (qE.o _ yG.o) _ ix.length _ rfl O4.o (Yn _) ?c1 ?c2 ?c3 ?_)
     case c1=>have:=HL.o;have:=L4.o;unfold maxLen;omega
     case c2=>have:=HL.o;have:=L4.o;omega
     case c3=>have:=yG.o.size;omega
     intro v' w7 ho nT tm;obtain⟨jl,c',rfl⟩:=cw ho;obtain⟨rD,r0,r1,r2,r3⟩:=FN.o _ _ _ ix ix.length yG.o rfl (by have:=L4.o;omega) ho nT;have r2':=r2;obtain⟨UD,c5,e5⟩:=cw r2;have R0:Hid (jT ms rD (k+1)/\∀x∈rD,-1<=x/\x<=1114112):=by rw[r0];exact oe.o ix Tw.o
     have R1:=ab r1;have R2:=ab r2;have R3:=ab r3;clear ho nT tm r0 r1 r2 r3 FN qE HO O4 yG L4 r2' e5;go_wp2_with fail;go_roundg (ms.length-(k+1))
     case measure=>omega
     case rel=>exact⟨k+1,rD,by simp,by omega,rfl,R1,R0,R2,R3⟩
    ·have kE:(q.k==2)=false:=(by simp[k2]);have R1:Hid (rs.length<=12000*(k+1)):=ab (by have:=HL.o;omega);have R0:Hid (jT ms rs (k+1)/\∀x∈rs,-1<=x/\x<=1114112):=⟨vd.o.1.skip az (by rw[<-pG.k];exact k1) (by rw[<-pG.k];exact k2),vd.o.2⟩;clear hq pG mG k1 k2 FN qE HO;go_wp2_with fail;go_roundg (ms.length-(k+1))
     case measure=>omega
     case rel=>exact⟨k+1,rs,by simp,by omega,rfl,R1,R0,HR,HK⟩
  ·have gK:k=ms.length:=(by omega);subst gK;have hit:¬((ms.length:Int)<(ms.length:Int)):=(by omega);have F:=ab (aoN HR.o (by have:=HL.o;omega));have HO:Hid (∀i,(Value.slice fY rs.length c3).ownBlock=some i->w.heap.size+1<=i):=(fun i hi=>(dw HR.o hi).1);clear HR;go_wp2_with fail;refine(F.o).mono ?_;rintro e w5 ⟨rfl,K5,Q5⟩;have F2:=ab (ahQ Q5);have Pr:=ab K5;clear F Q5 K5;go_wp2_with fail;refine(F2.o).mono ?_;rintro e w6 ⟨cl,ao6,c6,cb,rfl,Jt,mC,GK,nP,dc,nU,P6⟩;have HK6:=ab P6;have AG:=ab (And.intro Jt (And.intro mC (And.intro GK (And.intro nP (And.intro dc nU)))));clear F2 P6 Jt mC GK nP dc nU;go_wp2_with fail;go_ret;obtain⟨Jt,mC,GK,nP,dc,nU⟩:=AG.o;refine⟨cl,ao6,c6,cb,rfl,⟨Jt,mC⟩,GK.imp (fun h=>Int.le_of_lt h),vd.o.1.done nP,ah3 GK (fun x hx=>vd.o.2 x (dc x hx)),fun aB=>by have:=HO.o cb (nU aB);omega,(KW.o.wI Pr.o (fun i hi'=>by have:=HO.o i hi';omega)).wI HK6.o (fun i hi'=>by have:=HO.o i hi';omega)⟩
open Go.Maps
structure SoP(w:World)(g:FG)(m:MC)(t:TG)(mp:Nat)(mo bh:Int)(s:dC)(e:Ending)(w':World):Prop where
 ex:∃(q:Nat) (t':TG) (D':DataW Unit),e=.returned (BT q 0)/\t.le t'/\iV w' m t'/\lU w' mp mo t'.T D'/\qH w' m t' s (ju m.cl bh) q/\∀i,t'.B i->t.B i\/w.heap.size<=i
 fO:jh w' g
 kept:aa (fun i=>t.B i\/i=mp\/i=g.fb\/i=g.sb\/i=g.bb) w w'
theorem uQ(h:jh w g){i:Nat}(hi:g.cP i):i<w.heap.size:=by
 have h1:=h.ma.le;have h2:=h.ma.jS.lt;have h3:=h.ma.iz.lt;rcases hi with(hi|hi)|(hi|hi)
 ·rw[hi];exact h3
 ·omega
 ·rw[hi];exact h2.1
 ·rw[hi];exact h2.2
structure yJ(w:World)(m:MC)(t:TG)(p:Nat)(s:dC)(wx:World)(t1:TG)(pb:Nat)(cs:List (Option Nat)):Prop where
 le:t.le t1
 T:t1.T=t.T
 nu:iV wx m t1
 new:∀i,t1.B i->t.B i\/w.heap.size<=i
 aq:∃(c:Nat) (a:Option Addr),au wx p #[.slice a s.aX.length c,.int .i32 s.ah,.bool s.mt,.slice (some (GB pb 0)) (m.cl.length+1) (m.cl.length+1)] 192
 O:t1.B pb/\t1.O pb=p
 len:cs.length=m.cl.length+1
 row:au wx pb (cs.map fun q=>Value.pointer (q.map fun q=>((GB q 0):Addr))).toArray 314
 steps:∀j q,cs[j]? =some (some q)->qH wx m t1 s j q
 kept:aa t.B w wx
theorem yJ.aN{w1:World}{cs:List (Option Nat)}(k:aa ai w w1)(qQ:iV w m t)(hs:t.T p=some s)(e1:au w p #[.slice a s.aX.length c,.int .i32 s.ah,.bool s.mt,.slice (some (GB pb 0)) (m.cl.length+1) (m.cl.length+1)] 192)
 (h2:t.B pb/\t.O pb=p)(h4:cs.length=m.cl.length+1)(h5:au w pb (cs.map fun q=>Value.pointer (q.map fun q=>((GB q 0):Addr))).toArray 314)(h6:∀j q,cs[j]? =some (some q)->qH w m t s j q):yJ w m t p s w1 t pb cs:=
 ⟨TG.le.refl t,rfl,qQ.kept k (fun i hx=>hx.elim),fun i hi=>Or.inl hi,⟨c,a,e1.kept k (fun hx=>hx)⟩,h2,h4,h5.kept k (fun hx=>hx),fun j q hq=>(h6 j q hq).fp k (fun i hx=>hx.elim) (TG.le.refl t),k.mono (fun i hx=>hx.elim)⟩
theorem yJ.rz{w2 w3:World}(k:aa ai w w2)(qQ:iV w m t)(hs:t.T p=some s)(e1:au w p #[.slice a s.aX.length c,.int .i32 s.ah,.bool s.mt,.slice none 0 0] 192)(hp:w2.heap.size<=pb)(k3:aa (fun i=>i=p) w2 w3)
 (hB:au w3 p #[.slice a s.aX.length c,.int .i32 s.ah,.bool s.mt,.slice (some (GB pb 0)) (m.cl.length+1) (m.cl.length+1)] 192)(hP:au w3 pb ((List.replicate (m.cl.length+1) (none:Option Nat)).map fun q=>Value.pointer (q.map fun q=>(GB q 0))).toArray 314):
 yJ w m t p s w3 (t.Kg p pb) pb (List.replicate (m.cl.length+1) none):=by
 have hT2:=qQ.kept k (fun i hx=>hx.elim);have hn:¬t.B pb:=fun hx=>by have:=hT2.lt pb hx;omega
 refine⟨TG.adi hn,rfl,hT2.Kg hs (e1.kept k (fun hx=>hx)) hp k3 hB hP,fun i hi=>?_,⟨c,a,hB⟩,⟨Or.inr rfl,if_pos rfl⟩,by simp,hP,fun j q hq=>?_,(k.mono (fun i hx=>hx.elim)).trans (k3.mono (fun i hx=>by rw[hx];exact(qQ.st p s hs).in_))⟩
 ·rcases hi with hi|hi
  ·exact Or.inl hi
  ·have:=k.size;exact Or.inr (by omega)
 ·rw[C3]at hq;split at hq<;>cases hq
structure Us(w:World)(g:FG)(m:MC)(t:TG)(mp:Nat)(mo:Int)(s:dC)(j:Nat)(w':World)(q:Nat):Prop where
 ex:∃(t':TG) (D':DataW Unit),t.le t'/\iV w' m t'/\lU w' mp mo t'.T D'/\qH w' m t' s j q/\∀i,t'.B i->t.B i\/w.heap.size<=i
 fO:jh w' g
 kept:aa (fun i=>t.B i\/i=mp\/i=g.fb\/i=g.sb\/i=g.bb) w w'
def LU(p pb n:Nat)(W:World):Prop:=W.cell? (GB p 3)=some (.slice (some (GB pb 0)) n n)/\0<=W.heap.size
def aau(eb p:Nat)(UQ:Value)(W:World):Prop:=W.cell? (GB eb 3)=some UQ/\W.cell? (GB eb 6)=some (BT p 0)
theorem ao1{eb mp cc mn R9:Nat}{mo bh:Int}{ca:Option Addr}{R8:Option Addr}{D:DataW Unit}(hg:g.Ok)(Hp:m.ms=g.ms/\m.st=g.st)(bD:0<=g.st/\g.st<g.ms.length)(hb:0<=bh/\bh<=1114111)
 (hE:au w eb (p_ g.st (BT g.fb 0) (pz g.ms) (.slice ca m.cl.length cc) mo mp (BT p 0) (.slice R8 mn R9)) 159)(dP:mn=jv s.aX+(if s.mt then 0 else 1))(fD:2<=mo/\mo<=1000000000)(hmp:mp<w.heap.size)
 (ML:lU w mp mo t.T D)(qQ:iV w m t)(hs:t.T p=some s)(hI:jh w g)(hA:KP g t eb mp)(hC:AE w ca cb m.cl)(gV:m.cl.Pairwise (· <= ·))(fC:m.cl.length<=2000000)(hAm:∀i,t.B i->¬g.cP i):
 Calls prog 234 #[BT eb 0,.int .i32 bh] w (SoP w g m t mp mo bh s):=by
 obtain⟨cs0,as0,S8,e1,e2,e4⟩:=(qQ.st p s hs).ex;have lQ:=ab e1;have Ld:=ab e4;have rK:=ab qQ;have sL:=ab hs;have xd:=ab ML;have HI:=ab hI;have HA:=ab hA;have HG:=ab hg;have mr:=ab Hp;have KZ:=ab hAm;clear e1 e2 e4
 have S1:Hid (∀W,aa ai w W->aau eb p (.slice ca m.cl.length cc) W):=fun W k=>by
  have:=hE.kept k (fun hx=>hx);exact⟨this.cell 3,this.cell 6⟩
 have F:=ab fun(W:World) (k:aa ai w W)=>amj W ca cc cb m.cl bh (hC.kept k (fun _ hx=>hx)).at_ (hC.kept k (fun _ hx=>hx)).cells gV (by omega)
 go_in
 go_wp2_with fail
 refine j_ (Cl (by kernel_rfl) (Ci (S:=aau eb p (.slice ca m.cl.length cc)) _ _ _ _ ?_));have ak:=S1.o w.drew (aa.refl _ _).drew;refine aj 0 7 (BT eb 0) ak ?_;refine aj 1 8 (BT eb 0) ak ?_;refine aj 2 9 (BT eb 3) ak ?_;refine aj 3 10 (.slice ca m.cl.length cc) ak ?_;refine aj 4 11 (.int .i32 bh) ak ?_;refine aj 6 13 (BT eb 0) ak ?_;refine aj 7 14 (BT eb 0) ak ?_;refine aj 8 15 (BT eb 6) ak ?_;refine aj 9 16 (BT p 0) ak ?_;simp only[Act.put,Aa,Ad,Ac];refine bR 5 fun K hK=>?_
 go_simp;refine(F.o _ (aa.refl _ _).drew).mono ?_;rintro e w1 ⟨rfl,k1⟩;dsimp only;have K1:Hid (aa ai w w1):=((aa.refl ai w).drew).trans k1;have fe:=S1.o w1 K1.o;refine hK.o _ _ fe (fun _=>?_);clear hK K F k1;refine aj 10 5 (GW (ju m.cl bh:Int)) fe ?_;refine aj 11 6 (BT p 0) fe ?_;simp only[Act.put,Aa,Ad,Ac];refine At (by kernel_rfl) ?_ _;refine jE ?_;have HE:=ab hE;clear qQ hs ML hI hA hg Hp hAm hC hE S1 ak fe;have Hg:ju m.cl bh<=m.cl.length:=Fi;have HJ:=ab Hg;obtain⟨j,hj⟩:∃j,j=ju m.cl bh:=⟨_,rfl⟩
 rw[<-hj]at Hg⊢;have ZR:=ab hj;clear hj HJ
 obtain⟨a9,n9,c9,pH⟩:∃a9 n9 c9,S8=.slice a9 n9 c9:=by
  rcases Ld.o with h|⟨pb,cs,h,_⟩
  ·exact⟨_,_,_,h⟩
  ·exact⟨_,_,_,h⟩
 subst pH;obtain⟨bz,CG⟩:∃bz:Bool,bz=a9.isNone:=⟨_,rfl⟩
 have u1:∀W,(binOp .eql 190 (.slice a9 n9 c9) (.slice none 0 0)).run prog W=.ok (.bool bz) W:=fun W=>by rw[CG];exact Lib.run_eql_slice_nil W _ _ a9 n9 c9 0 0 underlying190
 have Zy:=ab CG;clear CG;have c39:w1.cell? (GB p 3)=some (.slice a9 n9 c9):=(lQ.o.kept K1.o (fun hx=>hx)).cell 3;go_upto_if 21 with fail
 go_cut [5] (fun v5 wx=>v5=GW (j:Int)/\Hid (∃t1 pb cs,yJ w m t p s wx t1 pb cs))
 case first=>
  rcases Ld.o with e9|⟨pb,cs,e9,q2,q3,q4,q5⟩
  ·simp only[A9]at e9;obtain⟨rfl,rfl,rfl⟩:=e9;have UY:bz=true:=Zy.o;subst UY;have B1:=lQ.o.kept K1.o (fun hx=>hx);have c3:w1.cell? (GB p 3)=some (.slice none 0 0):=B1.cell 3;have f3:w1.frozen? (GB p 3)=false:=B1.frozen 3;have d3:w1.cell? (GB eb 3)=some (.slice ca m.cl.length cc):=(HE.o.kept K1.o (fun hx=>hx)).cell 3;have F:=ab (ala w1 ca m.cl.length cc (by omega));obtain⟨i0,cW,dm,du,de⟩:=Bo Tryz.akH;obtain⟨n,hn⟩:∃n,n=m.cl.length+1:=⟨_,rfl⟩
   obtain⟨Z,hZ⟩:∃Z,Z=madeCells (Value.pointer none).cells ((n:Int).toNat*i0.size):=⟨_,rfl⟩
   have hn9:n<=2000001:=by omega
   have mk:∀W:World,(Instr.makeSlice 190 (GW (n:Int)) (GW (n:Int))).run prog W=.ok (.slice (some (GB W.heap.size 0)) n n) (W.alloc (.cells Z 314)):=fun W=>by
    have:=run_makeSlice (P:=prog) W 190 314 i0 (.pointer none) underlying190 cW dm .i64 .i64 (n:Int) (n:Int) (by omega) (Cm _) (by rw[du];omega) (by rw[de];omega) (by omega);rw[<-hZ]at this;simpa using this
   have HZ:Hid (Z=((List.replicate n (none:Option Nat)).map fun q=>Value.pointer (q.map fun q=>((GB q 0):Addr))).toArray):=by show _=_;rw[hZ,du];simp only[Fg,Az];exact als n
   have HN:=ab hn;rw[<-hn]at F
   have aA:Hid (∀(w2 w3:World),aa ai w w2->w3=(w2.setCell (GB p 3) (.slice (some (GB w2.heap.size 0)) n n)).alloc (.cells Z 314)->∃t1 pb cs,yJ w m t p s w3 t1 pb cs):=fun w2 w3 k e=>by
    have oH:=(lQ.o.kept k (fun hx=>hx)).lt;have b1:=((lQ.o.kept k (fun hx=>hx)).setCell 3 (.slice (some (GB w2.heap.size 0)) n n)).alloc (.cells Z 314)
    have b2:au ((w2.setCell (GB p 3) (.slice (some (GB w2.heap.size 0)) n n)).alloc (.cells Z 314)) w2.heap.size Z 314:=by
     have:=au.new (w2.setCell (GB p 3) (.slice (some (GB w2.heap.size 0)) n n)) Z 314;simpa using this
    rw[HN.o]at b1;rw[e];refine⟨_,w2.heap.size,_,yJ.rz k rK.o sL.o lQ.o (Ab _) (((aa.refl (fun i=>i=p) w2).setCell (p:=(GB p 3)) (Or.inl rfl) _).alloc _) ?_ ?_⟩
    ·rw[HN.o];exact b1
    ·rw[<-HN.o,<-HZ.o];exact b2
   clear B1 lQ Ld rK sL xd HI HA HG mr KZ HE hZ hn cW dm du de HZ;go_wp2_with fail;refine(F.o).mono ?_;rintro e w2 ⟨rfl,k2⟩;have oO:=K1.o.trans k2;have oH:=Bk _ _ c3;have AZ:w2.cell? (GB p 3)=some (.slice none 0 0):=(k2.cell (p:=(GB p 3)) oH (fun hx=>hx)).trans c3;have f3':w2.frozen? (GB p 3)=false:=(k2.frozen (p:=(GB p 3)) oH (fun hx=>hx)).trans f3;have acC:=Bk _ _ AZ;have f3a:(w2.alloc (.cells Z 314)).frozen? (GB p 3)=false:=(((aa.refl ai w2).alloc (.cells Z 314)).frozen (p:=(GB p 3)) acC (fun hx=>hx)).trans f3';have c3a:(w2.alloc (.cells Z 314)).cell? (GB p 3)=some (.slice none 0 0):=(((aa.refl ai w2).alloc (.cells Z 314)).cell (p:=(GB p 3)) acC (fun hx=>hx)).trans AZ;have u_:=ab (aA.o w2 _ oO rfl);clear F aA K1 c3 f3 d3 k2 oO;go_wp2_with fail;go_meet
   case rel=>exact⟨rfl,u_⟩
  ·simp only[A9]at e9;obtain⟨rfl,rfl,rfl⟩:=e9;have UY:bz=false:=Zy.o;subst UY;have B1:=lQ.o.kept K1.o (fun hx=>hx);have c3:w1.cell? (GB p 3)=some (.slice (some (GB pb 0)) (m.cl.length+1) (m.cl.length+1)):=B1.cell 3;have u_:Hid (∃t1 pb cs,yJ w m t p s w1 t1 pb cs):=⟨t,pb,cs,yJ.aN K1.o rK.o sL.o lQ.o q2 q3 q4 q5⟩;clear B1 lQ Ld rK sL xd HI HA HG mr KZ HE q4 q5;go_wp2_with fail;go_meet
   case rel=>exact⟨rfl,u_⟩
 case rest=>
  obtain⟨rfl,HX⟩:=hcut;obtain⟨t1,pb,cs,L⟩:=HX.o;have HL:=ab L;clear L HX;have CR:t.B p:=(rK.o.st p s sL.o).in_;have HKT:Hid (∀i,t.B i->i<w.heap.size):=rK.o.lt;have hd:eb<w.heap.size:=HE.o.lt;have hdm:∀i,t.B i->i≠eb/\i≠mp/\i≠g.fb/\i≠g.sb/\i≠g.bb:=fun i hi=>⟨fun e=>HA.o.eB (by rw[<-e];exact hi),fun e=>HA.o.mB (by rw[<-e];exact hi),fun e=>HA.o.fB.1 (by rw[<-e];exact hi),fun e=>HA.o.fB.2.1 (by rw[<-e];exact hi),fun e=>HA.o.fB.2.2 (by rw[<-e];exact hi)⟩
  have TM:=ab hdm;clear hdm;have Pl:=ab (HE.o.kept HL.o.kept HA.o.eB);have Lr:Hid (lU wc mp mo t1.T D):=by rw[HL.o.T];exact xd.o.kept HL.o.kept HA.o.mB
  have Lk:=ab (HI.o.kept HL.o.kept (fun i hi=>⟨by have:=TM.o i hi;omega,KZ.o i hi⟩));have LB:Hid (t1.T p=some s):=by rw[HL.o.T];exact sL.o
  have aqx:g.fb<w.heap.size/\g.sb<w.heap.size/\g.bb<w.heap.size:=by
   obtain⟨_,_,_,_,_,x1,⟨x2,_⟩,⟨x3,_⟩⟩:=HI.o.ex;exact⟨x1.lt,x2.lt,x3.lt⟩
  have HMX:Hid (∀i,g.cP i->¬w.heap.size<=i):=fun i hi hx=>by have:=uQ HI.o hi;omega
  have mu:Hid (∀i,t1.B i->i≠eb/\i≠mp/\i≠g.fb/\i≠g.sb/\i≠g.bb):=fun i hi=>by
   rcases HL.o.new i hi with h|h
   ·exact TM.o i h
   ·omega
  have Pe:Hid (KP g t1 eb mp):=⟨HA.o.em,HA.o.ef,HA.o.mf,HA.o.mm,fun h=>(mu.o _ h).1 rfl,fun h=>(mu.o _ h).2.1 rfl,fun h=>(mu.o _ h).2.2.1 rfl,fun h=>(mu.o _ h).2.2.2.1 rfl,fun h=>(mu.o _ h).2.2.2.2 rfl⟩;have Wn:j<cs.length:=by have:=HL.o.len;omega
  have Lm:=ab Wn;obtain⟨n,hn⟩:∃n,n=m.cl.length+1:=⟨_,rfl⟩
  have HN:=ab hn;have mD:(j:Int)<(n:Int):=by omega
  obtain⟨c0,a0,b0⟩:=HL.o.aq;have c3:wc.cell? (GB p 3)=some (.slice (some (GB pb 0)) n n):=by rw[hn];exact b0.cell 3
  obtain⟨oq,WI⟩:∃oq,cs[j]? =some oq:=⟨cs[j],Ae Wn⟩
  have cj:wc.cell? (GB pb j)=some (.pointer (oq.map fun q=>(GB q 0))):=by
   rw[HL.o.row.cell j];simp[WI]
  have fj:wc.frozen? (GB pb j)=false:=HL.o.row.frozen j;have Lu:=ab WI;obtain⟨bo,y9⟩:∃bo:Bool,bo=oq.isNone:=⟨_,rfl⟩
  have HBO:=ab y9;have cjv:wc.cell? (GB pb j)=some (.pointer (oq.map fun q=>(GB q 0))):=cj;obtain⟨ov,Nt⟩:∃ov:Option Addr,ov=oq.map fun q=>(GB q 0):=⟨_,rfl⟩
  rw[<-Nt]at cj;have T7:=ab Nt;have ZU:=HL.o.kept;have hK:Hid (aa (fun i=>t.B i\/i=mp\/i=g.fb\/i=g.sb\/i=g.bb) w wc):=ZU.mono (fun i hi=>Or.inl hi);clear hn WI Wn ZU b0 rK xd HI HA HE lQ Ld sL K1 TM Hg;have cjx:=ab cjv;clear cjv y9 Nt u1 c39;go_upto_if 38 with fail
  go_cut [5] (fun v5 wx=>v5=GW (j:Int)/\∃q,Hid (Us w g m t mp mo s j wx q)/\wx.cell? (GB p 3)=some (.slice (some (GB pb 0)) n n)/\wx.cell? (GB pb j)=some (BT q 0))
  case first=>
   cases oq with
   |some q=>
    have aA:Hid (Us w g m t mp mo s j wc q):=⟨⟨t1,D,HL.o.le,HL.o.nu,Lr.o,HL.o.steps j q Lu.o,HL.o.new⟩,Lk.o,hK.o⟩;have U0:ov=some (GB q 0):=T7.o;subst U0;have cj':=ab cj;clear cj HL Pl Lr Lk LB mu Pe Lm Lu hK;go_wp2_with fail;go_meet
    case rel=>exact⟨rfl,q,aA,c3,cj'.o⟩
   |none=>
    have U0:ov=none:=T7.o;subst U0
    have WO:Hid (∀W,aa ai wc W->Calls prog 237 #[BT eb 0,BT p 0,.int .i32 bh] W (Qd W g m t1 mp mo bh s)):=fun W k=>
     ap8 HG.o mr.o bD hb (Pl.o.kept k (fun hx=>hx)) dP fD (by have:=HL.o.kept.size;have:=k.size;omega) (Lr.o.kept k (fun hx=>hx)) (HL.o.nu.kept k (fun i hx=>hx.elim)) LB.o (Lk.o.new k) Pe.o
    have S5:Hid (∀W,aa ai wc W->LU p pb n W):=fun W k=>by
     obtain⟨c0,a0,b0⟩:=HL.o.aq;refine⟨?_,Al _⟩;rw[HN.o];exact(b0.kept k (fun hx=>hx)).cell 3
    have DX:Hid (∀(W w4:World) (e:Ending),aa ai wc W->Qd W g m t1 mp mo bh s e w4->∃q,e=.returned (BT q 0)/\LU p pb n w4/\(w4.frozen? (GB pb j)=false/\∃v,w4.cell? (GB pb j)=some v)/\Us w g m t mp mo s j (w4.setCell (GB pb j) (BT q 0)) q/\LU p pb n (w4.setCell (GB pb j) (BT q 0))/\(w4.setCell (GB pb j) (BT q 0)).cell? (GB pb j)=some (BT q 0)):=fun W w4 e k P=>by
     obtain⟨⟨q,t',D',rfl,p1,p2,p3,p4,p5⟩,p6,p7⟩:=P;have ee:=HL.o.O;have Np:=mu.o pb ee.1;have NA:=mu.o p (HL.o.le.B p CR);obtain⟨c0,a0,b0⟩:=HL.o.aq;have b4:=(b0.kept k (fun hx=>hx)).kept p7 (fun hx=>by omega);have r4:=(HL.o.row.kept k (fun hx=>hx)).kept p7 (fun hx=>by omega);have aB:p≠pb:=L_ b4 r4 (by decide);have hr:=r4.setCell j (BT q 0);have aW:=k.size;have WW:=HL.o.kept.size
     have oy:(w4.setCell (GB pb j) (BT q 0)).cell? (GB pb j)=some (BT q 0):=by
      rw[hr.cell j];have:=Lm.o;simp[this]
     have S4:∀W',aa (fun i=>i=pb) w4 W'->LU p pb n W':=fun W' k'=>by
      refine⟨?_,Al _⟩;rw[HN.o];exact(b4.kept k' aB).cell 3
     have kS:aa (fun i=>i=pb) w4 (w4.setCell (GB pb j) (BT q 0)):=(aa.refl (fun i=>i=pb) w4).setCell (p:=(GB pb j)) (Or.inl rfl) _;rw[<-ZR.o]at p4;refine⟨q,rfl,S4 _ (aa.refl _ _),⟨r4.frozen j,.pointer none,by rw[r4.cell j];simp[Lu.o]⟩,⟨⟨t',D',HL.o.le.trans p1,?_,p3.kept kS (fun hx=>by omega),p4.lr r4 (by decide) (by decide) kS (TG.le.refl _),fun i hi=>?_⟩,?_,?_⟩,S4 _ kS,oy⟩
     ·exact p2.set (s:=s) (b:=p) (p1.T p s LB.o) r4 ⟨p1.B _ ee.1,(p1.O _ ee.1).trans ee.2⟩ Lm.o p4
     ·rcases p5 i hi with h|h
      ·exact HL.o.new i h
      ·exact Or.inr (by omega)
     ·exact p6.kept kS (fun i hi=>by
       rw[hi];refine⟨by omega,fun hx=>?_⟩;rcases HL.o.new pb ee.1 with h|h
       ·exact KZ.o pb h hx
       ·exact HMX.o pb hx h)
     ·refine((hK.o.b_ (k.mono (S':=ai) (fun i hx=>hx)) (fun i _ hx=>hx.elim)).b_ p7 (fun i _ hx=>Or.inr hx)).setCell (p:=(GB pb j)) ?_ _;rcases HL.o.new pb ee.1 with h|h
      ·exact Or.inl (Or.inl h)
      ·exact Or.inr h
    clear HL Pl Lr Lk LB mu Pe Lm Lu hK cjx T7 HBO HG mr KZ;go_wp2_with fail;refine j_ (Cl (by kernel_rfl) (Ci (S:=LU p pb n) _ _ _ _ ?_));have ak:=S5.o wc.drew (aa.refl _ _).drew;refine aj 0 39 (BT p 0) ak ?_;refine aj 1 40 (BT p 0) ak ?_;refine aj 2 41 (BT p 3) ak ?_;refine aj 3 42 (.slice (some (GB pb 0)) n n) ak ?_;refine aj 4 43 (GW (j:Int)) ak ?_;refine aj 5 44 (BT eb 0) ak ?_;refine aj 6 45 (BT p 0) ak ?_;refine aj 7 46 (.int .i32 bh) ak ?_;simp only[Act.put,Aa,Ad,Ac];refine bR 8 fun K hK=>?_
    go_simp;refine(WO.o _ (aa.refl _ _).drew).mono ?_;intro e w4 P;obtain⟨q,rfl,cF,⟨f4,v4,c4⟩,FF,py,cq⟩:=DX.o _ w4 e (aa.refl _ _).drew P;dsimp only;have EH:=ab FF;have HCQ:=ab cq;have yD:=ab py;refine hK.o _ _ cF (fun _=>?_);clear hK K WO S5 DX P FF cq py ak c3 fj cj;refine aj 9 48 (BT pb j) cF ?_;simp only[Act.put,Aa,Ad,Ac];refine bR 10 fun K hK=>?_
    go_simp;refine hK.o _ _ yD.o (fun _=>?_);clear hK K;refine At (by kernel_rfl) ?_ _;refine jE ?_;go_wp2_with fail;go_meet
    case rel=>exact⟨rfl,q,EH,yD.o.1,HCQ.o⟩
  case rest=>
   obtain⟨rfl,q,HF,AZ,cj'⟩:=hcut;clear c3 cj fj hK HL Pl Lr Lk LB mu Pe Lm Lu;go_wp2_with fail;go_ret;obtain⟨⟨t',D',f1,f2,f3,f4,f5⟩,f6,f7⟩:=HF.o;exact⟨⟨q,t',D',rfl,f1,f2,f3,by rw[<-ZR.o];exact f4,f5⟩,f6,f7⟩
