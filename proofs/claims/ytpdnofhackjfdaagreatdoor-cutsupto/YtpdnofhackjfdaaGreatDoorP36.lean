/- The library's sort of runes, what it makes of a row -/
import Derived.Test.YtpdnofhackjfdaaGreatDoorP35
set_option linter.all false
set_option maxRecDepth 100000
set_option maxHeartbeats 4000000
namespace Go.Proofs.YtpdnofhackjfdaaGreatDoor
open Go.Proofs.Tryz
open Go.RowKit Go.Sort
variable {c c0 d:Array Int} {p:Int->Bool} {F U a b cap first g hi i i1 j j1 lo n off r sz:Nat} {R:Nat×Array Int} {w:World}
theorem cd.Xq{w1:World}(h:cd w g off sz w1 d){i' j':Nat}(hi:i<d.size)(hj:j<d.size)(ei:i'=i)(ej:j'=j):cd w g off sz ((w1.setCell ⟨g,off+i',none⟩ (.int .i32 d[j]!)).setCell ⟨g,off+j',none⟩ (.int .i32 d[i]!)) (swp d i j):=by
 subst ei ej;exact h.swap hi hj
theorem oB{p:Prop} [Decidable p](h:(!decide p)=true):¬p:=by simpa using h
theorem oC{p:Prop} [Decidable p](h:(!decide p)=false):p:=by simpa using h
theorem WY(d:Array Int)(h:hi<=2*r+1):siftDown ltInt hi F r d=d:=by rw[siftDown,dif_pos h]
theorem aeo(h1:2*r+2<hi)(h2:d[F+2*r+1]! <d[F+2*r+2]!)(h3:¬d[F+r]! <d[F+2*r+2]!):siftDown ltInt hi F r d=d:=by
 rw[siftDown,dif_neg (by omega),show F+(2*r+1)+1=F+2*r+2 by omega,show F+(2*r+2)=F+2*r+2 by omega,show F+(2*r+1)=F+2*r+1 by omega,if_pos (by simp[iV,h2];omega),if_pos (by simp[iV];omega)]
theorem aen(h1:2*r+2<hi)(h2:d[F+2*r+1]! <d[F+2*r+2]!)(h3:d[F+r]! <d[F+2*r+2]!):
 siftDown ltInt hi F (2*r+2) (swp d (F+r) (F+2*r+2))=siftDown ltInt hi F r d:=by
 conv=>rhs;rw[siftDown,dif_neg (by omega),show F+(2*r+1)+1=F+2*r+2 by omega,show F+(2*r+2)=F+2*r+2 by omega,show F+(2*r+1)=F+2*r+1 by omega,if_pos (by simp[iV,h2];omega),if_neg (by simp[iV];omega),dif_pos h1]
theorem W8(h0:2*r+1<hi)(h1:2*r+2<hi->¬d[F+2*r+1]! <d[F+2*r+2]!)(h3:¬d[F+r]! <d[F+2*r+1]!):siftDown ltInt hi F r d=d:=by
 rw[siftDown,dif_neg (by omega),show F+(2*r+1)+1=F+2*r+2 by omega,show F+(2*r+2)=F+2*r+2 by omega,show F+(2*r+1)=F+2*r+1 by omega,if_neg (by simp[iV];omega),if_pos (by simp[iV];omega)]
theorem WZ(h0:2*r+1<hi)(h1:2*r+2<hi->¬d[F+2*r+1]! <d[F+2*r+2]!)(h3:d[F+r]! <d[F+2*r+1]!):
 siftDown ltInt hi F (2*r+1) (swp d (F+r) (F+2*r+1))=siftDown ltInt hi F r d:=by
 conv=>rhs;rw[siftDown,dif_neg (by omega),show F+(2*r+1)+1=F+2*r+2 by omega,show F+(2*r+2)=F+2*r+2 by omega,show F+(2*r+1)=F+2*r+1 by omega,if_neg (by simp[iV];omega),if_neg (by simp[iV];omega)]
theorem aeC(hi F:Nat):∀(k r:Nat) (d:Array Int),hi-r<=k->(siftDown ltInt hi F r d).size=d.size:=by
 intro k;induction k with
 |zero=>intro r d h;rw[WY d (by omega)]
 |succ k ih=>
  intro r d h;by_cases h0:hi<=2*r+1
  ·rw[WY d h0]
  ·by_cases h1:2*r+2<hi/\d[F+2*r+1]! <d[F+2*r+2]!
   ·by_cases h3:d[F+r]! <d[F+2*r+2]!
    ·rw[<-aen h1.1 h1.2 h3,ih _ _ (by omega),size_swp]
    ·rw[aeo h1.1 h1.2 h3]
   ·have gP:2*r+2<hi->¬d[F+2*r+1]! <d[F+2*r+2]! :=(fun h hx=>h1 ⟨h,hx⟩);by_cases h3:d[F+r]! <d[F+2*r+1]!
    ·rw[<-WZ (by omega) gP h3,ih _ _ (by omega),size_swp]
    ·rw[W8 (by omega) gP h3]
theorem anB(hd:d.size=n)(hR:iI w g off sz d)(hf:first+hi<=n)(hn:n<1000000000)(mL:lo<=hi):
 Calls prog 175 #[.slice (some ⟨g,off,none⟩) n cap,.int .i64 (lo:Int),.int .i64 (hi:Int),.int .i64 (first:Int)] w fun e w'=>e=.returned (.tuple #[])/\cd w g off sz w' (siftDown ltInt hi first lo d):=by
 go_enter func175,ntmps175
 go_wp2_with fail
 go_loopw [8] (fun vr wr=>∃(r:Nat) (c:Array Int),vr=.int .i64 (r:Int)/\r<=hi/\Hid (c.size=n)/\Hid (siftDown ltInt hi first r c=siftDown ltInt hi first lo d)/\Hid (cd w g off sz wr c)) (fun vr _=>hi-(dJ vr).toNat)
 case atStart=>exact⟨lo,d,rfl,mL,hd,rfl,cd.refl hR⟩
 case round=>
  obtain⟨r,c,rfl,hr,hc,HE,HW⟩:=hrel;clear hR hd;obtain⟨bj,bM⟩:=HW.out.row.iQ;rw[hc.out]at bj bM;by_cases h0:hi<=2*r+1
  ·have h0z:(hi:Int)<=2*(r:Int)+1:=(by omega);go_wp2_with fail;go_end0;have e:c=siftDown ltInt hi first lo d:=by rw[<-HE.out];exact(WY c h0).symm
   rw[<-e];exact⟨rfl,HW.out⟩
  ·have h0z:¬((hi:Int)<=2*(r:Int)+1):=(by omega);by_cases h1:2*r+2<hi
   ·have h1z:2*(r:Int)+1+1<(hi:Int):=(by omega);go_wp2_with fail;go_big_quiet (first|(go_at_call 155;refine As (jx _ _ _)));go_wp2_with fail
    ·revert nq;intro rV
     have dV:=bI (HW.out.drewN rV);have jF:∀t,t<n->(wr.drewN rV).cell? ⟨g,off+t,none⟩=some (.int .i32 c[t]!):=(bj);have jG:∀t,t<n->(wr.drewN rV).frozen? ⟨g,off+t,none⟩=false:=bM
     clear bj bM HW;generalize wr.drewN rV=wr2 at jF jG dV⊢;have bj:=jF;have bM:=jG;clear jF jG;go_big_quiet (first|(go_at_call 155;refine As (jx _ _ _)));go_wp2_with fail
     ·(try simp only[Exit.inBlock,Exit.then]);refine Bj (Df rfl _ _ _) rfl ?_
      have e:c=siftDown ltInt hi first lo d:=by rw[<-HE.out];exact(aeo h1 (by omega) (oB (by assumption))).symm
      rw[<-e];exact⟨rfl,dV.out.drewN _⟩
     ·
      have fp:=bI (dV.out.drewN nq);have jF:∀t,t<n->(wr2.drewN nq).cell? ⟨g,off+t,none⟩=some (.int .i32 c[t]!):=(bj);have jG:∀t,t<n->(wr2.drewN nq).frozen? ⟨g,off+t,none⟩=false:=bM
      clear bj bM dV;generalize wr2.drewN nq=JM at jF jG fp⊢;have bj:=jF;have bM:=jG;clear jF jG;go_region;go_wp2_with fail;go_roundw
      case rel=>exact⟨2*r+2,_,by simp<;>omega,by omega,(size_swp _ _ _).trans hc.out,(aen h1 (by omega) (oC (by assumption))).trans HE.out,(fp.out.drew).Xq (by have:=hc.out;omega) (by have:=hc.out;omega) rfl (by omega)⟩
      case measure=>simp[dJ];omega
    ·revert nq;intro rV
     have dV:=bI (HW.out.drewN rV);have jF:∀t,t<n->(wr.drewN rV).cell? ⟨g,off+t,none⟩=some (.int .i32 c[t]!):=(bj);have jG:∀t,t<n->(wr.drewN rV).frozen? ⟨g,off+t,none⟩=false:=bM
     clear bj bM HW;generalize wr.drewN rV=wr2 at jF jG dV⊢;have bj:=jF;have bM:=jG;clear jF jG;go_big_quiet (first|(go_at_call 155;refine As (jx _ _ _)));go_wp2_with fail
     ·(try simp only[Exit.inBlock,Exit.then]);refine Bj (Df rfl _ _ _) rfl ?_
      have e:c=siftDown ltInt hi first lo d:=by rw[<-HE.out];exact(W8 (by omega) (fun _=>by omega) (oB (by assumption))).symm
      rw[<-e];exact⟨rfl,dV.out.drewN _⟩
     ·
      have fp:=bI (dV.out.drewN nq);have jF:∀t,t<n->(wr2.drewN nq).cell? ⟨g,off+t,none⟩=some (.int .i32 c[t]!):=(bj);have jG:∀t,t<n->(wr2.drewN nq).frozen? ⟨g,off+t,none⟩=false:=bM
      clear bj bM dV;generalize wr2.drewN nq=JM at jF jG fp⊢;have bj:=jF;have bM:=jG;clear jF jG;go_region;go_wp2_with fail;go_roundw
      case rel=>exact⟨2*r+1,_,by simp<;>omega,by omega,(size_swp _ _ _).trans hc.out,(WZ (by omega) (fun _=>by omega) (oC (by assumption))).trans HE.out,(fp.out.drew).Xq (by have:=hc.out;omega) (by have:=hc.out;omega) rfl (by omega)⟩
      case measure=>simp[dJ];omega
   ·have h1z:decide (2*(r:Int)+1+1<(hi:Int))=false:=by simp;omega
    go_wp2_with fail
    go_big_quiet (first|(go_at_call 155;refine As (jx _ _ _)))
    go_wp2_with fail
    revert nq;intro rV
    have dV:=bI (HW.out.drewN rV);have jF:∀t,t<n->(wr.drewN rV).cell? ⟨g,off+t,none⟩=some (.int .i32 c[t]!):=(bj);have jG:∀t,t<n->(wr.drewN rV).frozen? ⟨g,off+t,none⟩=false:=bM
    clear bj bM HW;generalize wr.drewN rV=wr2 at jF jG dV⊢;have bj:=jF;have bM:=jG;clear jF jG;go_big_quiet (first|(go_at_call 155;refine As (jx _ _ _)));go_wp2_with fail
    ·(try simp only[Exit.inBlock,Exit.then]);refine Bj (Df rfl _ _ _) rfl ?_
     have e:c=siftDown ltInt hi first lo d:=by rw[<-HE.out];exact(W8 (by omega) (fun hq=>absurd hq h1) (oB (by assumption))).symm
     rw[<-e];exact⟨rfl,dV.out.drewN _⟩
    ·
     have fp:=bI (dV.out.drewN nq);have jF:∀t,t<n->(wr2.drewN nq).cell? ⟨g,off+t,none⟩=some (.int .i32 c[t]!):=(bj);have jG:∀t,t<n->(wr2.drewN nq).frozen? ⟨g,off+t,none⟩=false:=bM
     clear bj bM dV;generalize wr2.drewN nq=JM at jF jG fp⊢;have bj:=jF;have bM:=jG;clear jF jG;go_region;go_wp2_with fail;go_roundw
     case rel=>exact⟨2*r+1,_,by simp<;>omega,by omega,(size_swp _ _ _).trans hc.out,(WZ (by omega) (fun hq=>absurd hq h1) (oC (by assumption))).trans HE.out,(fp.out.drew).Xq (by have:=hc.out;omega) (by have:=hc.out;omega) rfl (by omega)⟩
     case measure=>simp[dJ];omega
theorem aeD{lo' hi' first':Int}(hd:d.size=n)(hR:iI w g off sz d)(h1:lo'=(lo:Int))(h2:hi'=(hi:Int))(h3:first'=(first:Int))(hf:first+hi<=n)(hn:n<1000000000)(mL:lo<=hi):
 Calls prog 175 #[.slice (some ⟨g,off,none⟩) n cap,.int .i64 lo',.int .i64 hi',.int .i64 first'] w fun e w'=>e=.returned (.tuple #[])/\cd w g off sz w' (siftDown ltInt hi first lo d):=by
 subst h1 h2 h3;exact anB hd hR hf hn mL
theorem iI.nZ(h:iI w g off sz d){t:Nat}(ht:t<d.size):(∃r,w.cell? ⟨g,off+t,none⟩=some (.int .i32 r))/\w.frozen? ⟨g,off+t,none⟩=false:=by
 obtain⟨h1,h2⟩:=h.iQ;exact⟨⟨_,h1 t ht⟩,h2 t ht⟩
theorem Xk(h:scanUp p d j i=U)(cQ:i<=j)(hp:p d[i]! =true):scanUp p d j (i+1)=U:=by
 rw[<-h];conv=>rhs;unfold scanUp
 rw[if_pos (by simp[cQ,hp])]
theorem Xm(h:scanUp p d j i=U)(hp:¬p d[i]! =true):i=U:=by
 rw[<-h];unfold scanUp;rw[if_neg (by simp[hp])]
theorem Xl(h:scanUp p d j i=U)(cQ:¬i<=j):i=U:=by
 rw[<-h];unfold scanUp;rw[if_neg (by simp[cQ])]
theorem Xn(h:scanDown p d i j=U)(cQ:i<=j)(h1:1<=j)(hp:p d[j]! =true):scanDown p d i (j-1)=U:=by
 obtain⟨k,rfl⟩:∃k,j=k+1:=⟨j-1,by omega⟩
 rw[<-h];conv=>rhs;unfold scanDown
 rw[if_pos (by simp[cQ,hp])];rfl
theorem Xp(h:scanDown p d i j=U)(hp:¬p d[j]! =true):j=U:=by
 rw[<-h]
 cases j with
 |zero=>rfl
 |succ k=>
  unfold scanDown;rw[if_neg (by simp[hp])]
theorem Xo(h:scanDown p d i j=U)(cQ:¬i<=j):j=U:=by
 rw[<-h]
 cases j with
 |zero=>rfl
 |succ k=>
  unfold scanDown;rw[if_neg (by simp[cQ])]
theorem amf{p:Nat}(h0:c0=swp d a p)(hi:i=scanUp (fun x=>ltInt x c0[a]!) c0 (b-1) (a+1))(hj:j=scanDown (fun x=>!ltInt x c0[a]!) c0 i (b-1))(cQ:j<i):partition ltInt d a b p=(j,true,swp c0 j a):=by
 unfold partition;simp only[<-h0,<-hi,<-hj];rw[if_pos cQ]
theorem amh{p:Nat}(h0:c0=swp d a p)(hi:i=scanUp (fun x=>ltInt x c0[a]!) c0 (b-1) (a+1))(hj:j=scanDown (fun x=>!ltInt x c0[a]!) c0 i (b-1))(cQ:¬j<i)(hR:R=partLoop ltInt a (i+1) (j-1) (swp c0 i j)):partition ltInt d a b p=(R.1,false,swp R.2 R.1 a):=by
 unfold partition;simp only[<-h0,<-hi,<-hj];rw[if_neg cQ,<-hR]
theorem amF(h:partLoop ltInt a i1 j1 c=R)(hi:i=scanUp (fun x=>ltInt x c[a]!) c j1 i1)(hj:j=scanDown (fun x=>!ltInt x c[a]!) c i j1)(cQ:j<i):R=(j,c):=by
 rw[<-h,partLoop_eq,<-hi,<-hj,if_pos cQ]
theorem amG(h:partLoop ltInt a i1 j1 c=R)(hi:i=scanUp (fun x=>ltInt x c[a]!) c j1 i1)(hj:j=scanDown (fun x=>!ltInt x c[a]!) c i j1)(cQ:¬j<i):partLoop ltInt a (i+1) (j-1) (swp c i j)=R:=by
 rw[<-h];conv=>rhs;rw[partLoop_eq,<-hi,<-hj,if_neg cQ]
theorem amo(h:partEqLoop ltInt a i1 j1 c=R)(hi:i=scanUp (fun x=>!ltInt c[a]! x) c j1 i1)(hj:j=scanDown (fun x=>ltInt c[a]! x) c i j1)(cQ:j<i):R=(i,c):=by
 rw[<-h,partEqLoop_eq,<-hi,<-hj,if_pos cQ]
theorem amp(h:partEqLoop ltInt a i1 j1 c=R)(hi:i=scanUp (fun x=>!ltInt c[a]! x) c j1 i1)(hj:j=scanDown (fun x=>ltInt c[a]! x) c i j1)(cQ:¬j<i):partEqLoop ltInt a (i+1) (j-1) (swp c i j)=R:=by
 rw[<-h];conv=>rhs;rw[partEqLoop_eq,<-hi,<-hj,if_neg cQ]
def afH(w:World)(g off sz a b p:Nat)(d:Array Int)(m:Nat)(t:Bool)(w':World):Prop:=(a<=m/\m<b)/\∃c,partition ltInt d a b p=(m,t,c)/\cd w g off sz w' c
def afI(w:World)(g off sz a b p:Nat)(d:Array Int)(m:Nat)(w':World):Prop:=(a<m/\m<=b)/\∃c,partitionEqual ltInt d a b p=(m,c)/\cd w g off sz w' c
theorem aiF(hd:d.size=n)(hR:iI w g off sz d)(lq:a<b)(hb:b<=n)(hn:n<1000000000):
 Calls prog 150 #[.slice (some ⟨g,off,none⟩) n cap,.int .i64 (a:Int),.int .i64 (b:Int)] w fun e w'=>e=.returned (.tuple #[])/\cd w g off sz w' (heapSort ltInt d a b):=by
 obtain⟨D1,T_⟩:∃D1,D1=heapBuild ltInt (b-a) a ((b-a-1) /2+1) d:=⟨_,rfl⟩
 have abk:heapPop ltInt a (b-a) D1=heapSort ltInt d a b:=by rw[T_];rfl
 have Hs:=bI T_;have Sl:=bI abk;clear T_ abk;generalize heapSort ltInt d a b=DF at Sl⊢;go_enter func150,ntmps150;go_wp2_with fail;go_loopw [9] (fun vi wr=>∃(i:Nat) (c:Array Int),vi=.int .i64 ((i:Int)-1)/\i<=b-a/\Hid (c.size=n)/\Hid (heapBuild ltInt (b-a) a i c=D1)/\Hid (cd w g off sz wr c)) (fun vi _=>(dJ vi+1).toNat)
 case atStart=>exact⟨(b-a-1) /2+1,d,by congr 1;omega,by omega,hd,Hs.out.symm,cd.refl hR⟩
 case round=>
  obtain⟨i,c,rfl,og,hc,HE,HW⟩:=hrel;clear hR hd Hs
  cases i with
  |succ i=>
   have hz:(0:Int)<=((i+1:Nat):Int)-1:=(by omega);have EP:((i+1:Nat):Int)-1=(i:Int):=(by omega);have F:=bI (aeD (cap:=cap) (lo:=i) (hi:=b-a) (first:=a) (lo':=(i:Int)) (hi':=(b:Int)-(a:Int)) (first':=(a:Int)) hc.out HW.out.row rfl (by omega) rfl (by omega) hn (by omega));go_wp2_with fail;refine(F.out).mono ?_;rintro e w1 ⟨rfl,P1⟩;have oJ:=bI (HW.out.trans P1);clear P1 F HW;go_wp2_with fail;go_roundw
   case rel=>exact⟨i,_,by congr 1,by omega,(aeC _ _ _ _ _ (Ab _)).trans hc.out,HE,oJ⟩
   case measure=>simp[dJ]<;>omega
  |zero=>
   have hz:¬((0:Int)<=((0:Nat):Int)-1):=(by omega);go_wp2_with fail;go_loopw [10] (fun vi wr=>∃(i:Nat) (c2:Array Int),vi=.int .i64 ((i:Int)-1)/\i<=b-a/\Hid (c2.size=n)/\Hid (heapPop ltInt a i c2=DF)/\Hid (cd w g off sz wr c2)) (fun vi _=>(dJ vi+1).toNat)
   case atStart=>exact⟨b-a,c,by congr 1;omega,by omega,hc,by have e:c=D1:=HE.out;rw[e];exact Sl,HW⟩
   case round=>
    obtain⟨i,c2,rfl,lr,jh,ja,dV⟩:=hrel;clear HW Sl HE hc
    cases i with
    |succ i=>
     have hz:(0:Int)<=((i+1:Nat):Int)-1:=(by omega);have EP:((i+1:Nat):Int)-1=(i:Int):=(by omega);go_wp2_with fail;obtain⟨bj,bM⟩:=dV.out.row.iQ;rw[jh.out]at bj bM;have gi:=jh.out;obtain⟨⟨q0,q1⟩,q2⟩:=(dV.out.put (show a<c2.size by omega) c2[a+i]!).row.nZ (show a+i<_ by simp;omega);go_region;have fp:=bI ((dV.out.drew).swap (show a<c2.size by omega) (show a+i<c2.size by omega));have F:=bI (aeD (cap:=cap) (lo:=0) (hi:=i) (first:=a) (lo':=0) (hi':=(i:Int)) (first':=(a:Int)) ((size_swp _ _ _).trans gi) fp.out.row rfl rfl rfl (by omega) hn (by omega));clear dV bj bM q1 q2 gi;go_wp2_with fail;refine(F.out).mono ?_;rintro e w1 ⟨rfl,P1⟩;have oK:=bI (fp.out.trans P1);clear P1 F fp;go_wp2_with fail;go_roundw
     case rel=>exact⟨i,_,by congr 1,by omega,((aeC _ _ _ _ _ (Ab _)).trans (size_swp _ _ _)).trans jh.out,ja,oK⟩
     case measure=>simp[dJ]<;>omega
    |zero=>
     have hz:¬((0:Int)<=((0:Nat):Int)-1):=(by omega);go_wp2_with fail;go_end0;have e:c2=DF:=ja.out;rw[<-e];exact⟨rfl,dV.out⟩
theorem amg{p:Nat}(hd:d.size=n)(hR:iI w g off sz d)(lq:a+2<=b)(hb:b<=n)(hn:n<1000000000)(hp:a<=p/\p<b):
 Calls prog 157 #[.slice (some ⟨g,off,none⟩) n cap,.int .i64 (a:Int),.int .i64 (b:Int),.int .i64 (p:Int)] w fun e w'=>∃(m:Nat) (t:Bool),e=.returned (.tuple #[.int .i64 (m:Int),.bool t])/\afH w g off sz a b p d m t w':=by
 have lG:=bI (cd.refl hR);clear hR;go_enter func157,ntmps157;obtain⟨bj,bM⟩:=lG.out.row.iQ;rw[hd]at bj bM;obtain⟨⟨q0,q1⟩,q2⟩:=(lG.out.put (show a<d.size by omega) d[p]!).row.nZ (show p<_ by simp;omega);go_wp2_with fail;go_region;have HW:=bI ((lG.out.drew).swap (show a<d.size by omega) (show p<d.size by omega));obtain⟨c0,nC⟩:∃c0,c0=swp d a p:=⟨_,rfl⟩
 rw[<-nC]at HW;have jj:Hid (c0.size=n):=by rw[nC];exact(size_swp _ _ _).trans hd
 have Hq:=bI nC;obtain⟨U,hU⟩:∃U,U=scanUp (fun x=>ltInt x c0[a]!) c0 (b-1) (a+1):=⟨_,rfl⟩
 have HU:=bI hU;clear bj bM q1 q2 lG nC hU hd;go_upto_block 0 with fail
 go_cut [10] (fun sx wx=>∃i:Nat,sx=.int .i64 (i:Int)/\a+1<=i/\i<=b/\Hid (i=U)/\Hid (cd w g off sz wx c0))
 case first=>
  go_wp2_with fail
  go_loopw [10] (fun vi wr=>∃i:Nat,vi=.int .i64 (i:Int)/\(a+1)<=i/\i<=b/\Hid (scanUp (fun x=>ltInt x c0[a]!) c0 (b-1) i=U)/\Hid (cd w g off sz wr c0)) (fun vi _=>b-(dJ vi).toNat)
  case atStart=>exact⟨(a+1),by go_num,Ab _,by omega,HU.out.symm,HW⟩
  case round=>
   obtain⟨i,rfl,cR,gi,HS,dP⟩:=hrel;clear HW;obtain⟨bj,bM⟩:=dP.out.row.iQ;rw[jj.out]at bj bM;by_cases hc:i+1<=b
   ·have hz:(i:Int)<=(b:Int)-1:=(by omega);go_wp2_with fail;go_big_quiet (first|(go_at_call 155;refine As (jx _ _ _)));go_wp2_with fail
    ·go_roundw
     case rel=>exact⟨i+1,by go_num,by omega,by omega,Xk HS.out (by omega) (by simp only[iV,Az,Cb,A8];first|omega|exact oB (by assumption)|exact oC (by assumption)),dP.out.drewN _⟩
     case measure=>simp[dJ]<;>omega
    ·go_meet
     case rel=>exact⟨i,rfl,by omega,by omega,Xm HS.out (fun hq=>by simp only[iV,Az,Cb,A8]at hq;first|omega|exact hq (oC (by assumption))|exact oB (by assumption) hq),dP.out.drewN _⟩
   ·have hz:decide ((i:Int)<=(b:Int)-1)=false:=Bd (by omega);go_wp2_with fail;go_big_quiet (first|(go_at_call 155;refine As (jx _ _ _)));go_wp2_with fail;go_meet
    case rel=>exact⟨i,rfl,by omega,by omega,Xl HS.out (by omega),dP.out.drewN _⟩
 case rest=>
  obtain⟨i,rfl,og,lr,tW,dV⟩:=hcut;clear HW;obtain⟨V,hV⟩:∃V,V=scanDown (fun x=>!ltInt x c0[a]!) c0 i (b-1):=⟨_,rfl⟩
  have HV:=bI hV;clear hV;go_upto_block 2 with fail
  go_cut [11] (fun sx wx=>∃j:Nat,sx=.int .i64 (j:Int)/\j<=(b-1)/\i<=j+2/\a<=j/\Hid (j=V)/\Hid (cd w g off sz wx c0))
  case first=>
   go_wp2_with fail
   go_loopw [11] (fun vj wr=>∃j:Nat,vj=.int .i64 (j:Int)/\j<=(b-1)/\i<=j+2/\a<=j/\Hid (scanDown (fun x=>!ltInt x c0[a]!) c0 i j=V)/\Hid (cd w g off sz wr c0)) (fun vj _=>(dJ vj).toNat)
   case atStart=>exact⟨(b-1),by congr 1;omega,Ab _,by omega,by omega,HV.out.symm,dV⟩
   case round=>
    obtain⟨j,rfl,cR,gi,qG,HS,dP⟩:=hrel;clear dV;obtain⟨bj,bM⟩:=dP.out.row.iQ;rw[jj.out]at bj bM;by_cases hc:i<=j
    ·have hz:(i:Int)<=(j:Int):=(by omega);go_wp2_with fail;go_big_quiet (first|(go_at_call 155;refine As (jx _ _ _)));go_wp2_with fail
     ·go_roundw
      case rel=>exact⟨j-1,by congr 1;omega,by omega,by omega,by omega,Xn HS.out (by omega) (by omega) (by simp only[iV,Az,Cb,A8];first|omega|exact oB (by assumption)|exact oC (by assumption)),dP.out.drewN _⟩
      case measure=>simp[dJ]<;>omega
     ·go_meet
      case rel=>exact⟨j,rfl,by omega,by omega,by omega,Xp HS.out (fun hq=>by simp only[iV,Az,Cb,A8]at hq;first|omega|exact hq (oC (by assumption))|exact oB (by assumption) hq),dP.out.drewN _⟩
    ·have hz:decide ((i:Int)<=(j:Int))=false:=Bd (by omega);go_wp2_with fail;go_big_quiet (first|(go_at_call 155;refine As (jx _ _ _)));go_wp2_with fail;go_meet
     case rel=>exact⟨j,rfl,by omega,by omega,by omega,Xo HS.out (by omega),dP.out.drewN _⟩
  case rest=>
   obtain⟨j,rfl,rG,lL,IV,yy,fp⟩:=hcut;clear dV;have aS:=jj.out;by_cases cQ:j<i
   ·have hz:(j:Int)<(i:Int):=(by omega);obtain⟨bj,bM⟩:=fp.out.row.iQ;rw[aS]at bj bM;obtain⟨⟨q0,q1⟩,q2⟩:=(fp.out.put (show j<c0.size by omega) c0[a]!).row.nZ (show a<_ by simp;omega);have ax:Hid (partition ltInt d a b p=(j,true,swp c0 j a)):=amf Hq.out (tW.out.trans HU.out) (yy.out.trans HV.out) cQ;go_wp2_with fail;go_region;have oK:=bI ((fp.out.drew).swap (show j<c0.size by omega) (show a<c0.size by omega));clear bj bM q1 q2 fp;go_wp2_with fail;go_ret2;exact⟨j,true,rfl,by omega,_,ax.out,oK.out⟩
   ·have hz:¬((j:Int)<(i:Int)):=(by omega);obtain⟨bj,bM⟩:=fp.out.row.iQ;rw[aS]at bj bM;obtain⟨⟨q0,q1⟩,q2⟩:=(fp.out.put (show i<c0.size by omega) c0[j]!).row.nZ (show j<_ by simp;omega);obtain⟨R,vo⟩:∃R,R=partLoop ltInt a (i+1) (j-1) (swp c0 i j):=⟨_,rfl⟩
    have ax:Hid (partition ltInt d a b p=(R.1,false,swp R.2 R.1 a)):=amh Hq.out (tW.out.trans HU.out) (yy.out.trans HV.out) cQ vo;have kF:=bI vo;clear vo;go_wp2_with fail;go_region;have oK:=bI ((fp.out.drew).swap (show i<c0.size by omega) (show j<c0.size by omega));have pM:Hid ((swp c0 i j).size=n):=(size_swp _ _ _).trans aS;clear bj bM q1 q2 fp;go_wp2_with fail;go_loopw [10,11] (fun vi vj wr=>∃(i j:Nat) (c:Array Int),vi=.int .i64 (i:Int)/\vj=.int .i64 (j:Int)/\a+1<=i/\i<=b/\a<=j/\j<b/\i<=j+2/\Hid (c.size=n)/\Hid (partLoop ltInt a i j c=R)/\Hid (cd w g off sz wr c)) (fun vi vj _=>(dJ vj+2-dJ vi).toNat)
    case atStart=>exact⟨i+1,j-1,_,by go_num,by congr 1;omega,by omega,by omega,by omega,by omega,by omega,pM,kF.out.symm,oK⟩
    case round=>
     clear oK cQ hz rG lL IV og lr jj aS Hq HU HV tW yy kF pM;obtain⟨i1,j1,c,rfl,rfl,og,lr,rG,lL,aiU,jj,kF,HW⟩:=hrel;obtain⟨U2,hU⟩:∃U2,U2=scanUp (fun x=>ltInt x c[a]!) c j1 i1:=⟨_,rfl⟩
     have HU:=bI hU;clear hU;go_upto_block 6 with fail
     go_cut [10] (fun sx wx=>∃i:Nat,sx=.int .i64 (i:Int)/\i1<=i/\i<=b/\i<=j1+2/\Hid (i=U2)/\Hid (cd w g off sz wx c))
     case first=>
      go_wp2_with fail
      go_loopw [10] (fun vi wr=>∃i:Nat,vi=.int .i64 (i:Int)/\i1<=i/\i<=b/\i<=j1+2/\Hid (scanUp (fun x=>ltInt x c[a]!) c j1 i=U2)/\Hid (cd w g off sz wr c)) (fun vi _=>b-(dJ vi).toNat)
      case atStart=>exact⟨i1,rfl,Ab _,by omega,by omega,HU.out.symm,HW⟩
      case round=>
       obtain⟨i,rfl,cR,gi,qG,HS,dP⟩:=hrel;clear HW;obtain⟨bj,bM⟩:=dP.out.row.iQ;rw[jj.out]at bj bM;by_cases hc:i<=j1
       ·have hz:(i:Int)<=(j1:Int):=(by omega);go_wp2_with fail;go_big_quiet (first|(go_at_call 155;refine As (jx _ _ _)));go_wp2_with fail
        ·go_roundw
         case rel=>exact⟨i+1,by go_num,by omega,by omega,by omega,Xk HS.out (by omega) (by simp only[iV,Az,Cb,A8];first|omega|exact oB (by assumption)|exact oC (by assumption)),dP.out.drewN _⟩
         case measure=>simp[dJ]<;>omega
        ·go_meet
         case rel=>exact⟨i,rfl,by omega,by omega,by omega,Xm HS.out (fun hq=>by simp only[iV,Az,Cb,A8]at hq;first|omega|exact hq (oC (by assumption))|exact oB (by assumption) hq),dP.out.drewN _⟩
       ·have hz:decide ((i:Int)<=(j1:Int))=false:=Bd (by omega);go_wp2_with fail;go_big_quiet (first|(go_at_call 155;refine As (jx _ _ _)));go_wp2_with fail;go_meet
        case rel=>exact⟨i,rfl,by omega,by omega,by omega,Xl HS.out (by omega),dP.out.drewN _⟩
     case rest=>
      obtain⟨i,rfl,PJ,hi4,hi5,tW,dV⟩:=hcut;clear HW;obtain⟨V2,hV⟩:∃V2,V2=scanDown (fun x=>!ltInt x c[a]!) c i j1:=⟨_,rfl⟩
      have HV:=bI hV;clear hV;go_upto_block 8 with fail
      go_cut [11] (fun sx wx=>∃j:Nat,sx=.int .i64 (j:Int)/\j<=j1/\i<=j+2/\a<=j/\Hid (j=V2)/\Hid (cd w g off sz wx c))
      case first=>
       go_wp2_with fail
       go_loopw [11] (fun vj wr=>∃j:Nat,vj=.int .i64 (j:Int)/\j<=j1/\i<=j+2/\a<=j/\Hid (scanDown (fun x=>!ltInt x c[a]!) c i j=V2)/\Hid (cd w g off sz wr c)) (fun vj _=>(dJ vj).toNat)
       case atStart=>exact⟨j1,rfl,Ab _,by omega,by omega,HV.out.symm,dV⟩
       case round=>
        obtain⟨j,rfl,cR,gi,qG,HS,dP⟩:=hrel;clear dV;obtain⟨bj,bM⟩:=dP.out.row.iQ;rw[jj.out]at bj bM;by_cases hc:i<=j
        ·have hz:(i:Int)<=(j:Int):=(by omega);go_wp2_with fail;go_big_quiet (first|(go_at_call 155;refine As (jx _ _ _)));go_wp2_with fail
         ·go_roundw
          case rel=>exact⟨j-1,by congr 1;omega,by omega,by omega,by omega,Xn HS.out (by omega) (by omega) (by simp only[iV,Az,Cb,A8];first|omega|exact oB (by assumption)|exact oC (by assumption)),dP.out.drewN _⟩
          case measure=>simp[dJ]<;>omega
         ·go_meet
          case rel=>exact⟨j,rfl,by omega,by omega,by omega,Xp HS.out (fun hq=>by simp only[iV,Az,Cb,A8]at hq;first|omega|exact hq (oC (by assumption))|exact oB (by assumption) hq),dP.out.drewN _⟩
        ·have hz:decide ((i:Int)<=(j:Int))=false:=Bd (by omega);go_wp2_with fail;go_big_quiet (first|(go_at_call 155;refine As (jx _ _ _)));go_wp2_with fail;go_meet
         case rel=>exact⟨j,rfl,by omega,by omega,by omega,Xo HS.out (by omega),dP.out.drewN _⟩
      case rest=>
       obtain⟨j,rfl,IV,PM,PQ,yy,fp⟩:=hcut;clear dV;have aS:=jj.out;by_cases cQ:j<i
       ·have hz:(j:Int)<(i:Int):=(by omega);obtain⟨bj,bM⟩:=fp.out.row.iQ;rw[aS]at bj bM;obtain⟨⟨q0,q1⟩,q2⟩:=(fp.out.put (show j<c.size by omega) c[a]!).row.nZ (show a<_ by simp;omega);have E:=amF kF.out (tW.out.trans HU.out) (yy.out.trans HV.out) cQ;rw[E]at ax;go_wp2_with fail;go_region;have oK:=bI ((fp.out.drew).swap (show j<c.size by omega) (show a<c.size by omega));clear bj bM q1 q2 fp;go_wp2_with fail;go_ret2;exact⟨j,false,rfl,by omega,_,ax.out,oK.out⟩
       ·have hz:¬((j:Int)<(i:Int)):=(by omega);obtain⟨bj,bM⟩:=fp.out.row.iQ;rw[aS]at bj bM;obtain⟨⟨q0,q1⟩,q2⟩:=(fp.out.put (show i<c.size by omega) c[j]!).row.nZ (show j<_ by simp;omega);have E:=bI (amG kF.out (tW.out.trans HU.out) (yy.out.trans HV.out) cQ);go_wp2_with fail;go_region;have oK:=bI ((fp.out.drew).swap (show i<c.size by omega) (show j<c.size by omega));have pM:Hid ((swp c i j).size=n):=(size_swp _ _ _).trans aS;clear bj bM q1 q2 fp;go_wp2_with fail;go_roundw
        case rel=>exact⟨i+1,j-1,_,by go_num,by congr 1;omega,by omega,by omega,by omega,by omega,by omega,pM,E,oK⟩
        case measure=>simp[dJ]<;>omega
theorem amq{p:Nat}(hd:d.size=n)(hR:iI w g off sz d)(lq:a+2<=b)(hb:b<=n)(hn:n<1000000000)(hp:a<=p/\p<b):
 Calls prog 156 #[.slice (some ⟨g,off,none⟩) n cap,.int .i64 (a:Int),.int .i64 (b:Int),.int .i64 (p:Int)] w fun e w'=>∃m:Nat,e=.returned (.int .i64 (m:Int))/\afI w g off sz a b p d m w':=by
 have lG:=bI (cd.refl hR);clear hR;go_enter func156,ntmps156;obtain⟨bj,bM⟩:=lG.out.row.iQ;rw[hd]at bj bM;obtain⟨⟨q0,q1⟩,q2⟩:=(lG.out.put (show a<d.size by omega) d[p]!).row.nZ (show p<_ by simp;omega);obtain⟨R,vo⟩:∃R,R=partEqLoop ltInt a (a+1) (b-1) (swp d a p):=⟨_,rfl⟩
 have ax:Hid (partitionEqual ltInt d a b p=R):=vo.symm;have kF:=bI vo;clear vo;go_wp2_with fail;go_region;have HW:=bI ((lG.out.drew).swap (show a<d.size by omega) (show p<d.size by omega));have pM:Hid ((swp d a p).size=n):=(size_swp _ _ _).trans hd;clear bj bM q1 q2 lG hd;go_wp2_with fail;go_loopw [9,10] (fun vi vj wr=>∃(i j:Nat) (c:Array Int),vi=.int .i64 (i:Int)/\vj=.int .i64 (j:Int)/\a+1<=i/\i<=b/\a<=j/\j<b/\i<=j+2/\Hid (c.size=n)/\Hid (partEqLoop ltInt a i j c=R)/\Hid (cd w g off sz wr c)) (fun vi vj _=>(dJ vj+2-dJ vi).toNat)
 case atStart=>exact⟨a+1,b-1,_,by go_num,by congr 1;omega,by omega,by omega,by omega,by omega,by omega,pM,kF.out.symm,HW⟩
 case round=>
  clear HW kF pM;obtain⟨i1,j1,c,rfl,rfl,og,lr,rG,lL,aiU,jj,kF,HW⟩:=hrel;obtain⟨U2,hU⟩:∃U2,U2=scanUp (fun x=>!ltInt c[a]! x) c j1 i1:=⟨_,rfl⟩
  have HU:=bI hU;clear hU;go_upto_block 2 with fail
  go_cut [9] (fun sx wx=>∃i:Nat,sx=.int .i64 (i:Int)/\i1<=i/\i<=b/\i<=j1+2/\Hid (i=U2)/\Hid (cd w g off sz wx c))
  case first=>
   go_wp2_with fail
   go_loopw [9] (fun vi wr=>∃i:Nat,vi=.int .i64 (i:Int)/\i1<=i/\i<=b/\i<=j1+2/\Hid (scanUp (fun x=>!ltInt c[a]! x) c j1 i=U2)/\Hid (cd w g off sz wr c)) (fun vi _=>b-(dJ vi).toNat)
   case atStart=>exact⟨i1,rfl,Ab _,by omega,by omega,HU.out.symm,HW⟩
   case round=>
    obtain⟨i,rfl,cR,gi,qG,HS,dP⟩:=hrel;clear HW;obtain⟨bj,bM⟩:=dP.out.row.iQ;rw[jj.out]at bj bM;by_cases hc:i<=j1
    ·have hz:(i:Int)<=(j1:Int):=(by omega);go_wp2_with fail;go_big_quiet (first|(go_at_call 155;refine As (jx _ _ _)));go_wp2_with fail
     ·go_roundw
      case rel=>exact⟨i+1,by go_num,by omega,by omega,by omega,Xk HS.out (by omega) (by simp only[iV,Az,Cb,A8];first|omega|exact oB (by assumption)|exact oC (by assumption)),dP.out.drewN _⟩
      case measure=>simp[dJ]<;>omega
     ·go_meet
      case rel=>exact⟨i,rfl,by omega,by omega,by omega,Xm HS.out (fun hq=>by simp only[iV,Az,Cb,A8]at hq;first|omega|exact hq (oC (by assumption))|exact oB (by assumption) hq),dP.out.drewN _⟩
    ·have hz:decide ((i:Int)<=(j1:Int))=false:=Bd (by omega);go_wp2_with fail;go_big_quiet (first|(go_at_call 155;refine As (jx _ _ _)));go_wp2_with fail;go_meet
     case rel=>exact⟨i,rfl,by omega,by omega,by omega,Xl HS.out (by omega),dP.out.drewN _⟩
  case rest=>
   obtain⟨i,rfl,PJ,hi4,hi5,tW,dV⟩:=hcut;clear HW;obtain⟨V2,hV⟩:∃V2,V2=scanDown (fun x=>ltInt c[a]! x) c i j1:=⟨_,rfl⟩
   have HV:=bI hV;clear hV;go_upto_block 4 with fail
   go_cut [10] (fun sx wx=>∃j:Nat,sx=.int .i64 (j:Int)/\j<=j1/\i<=j+2/\a<=j/\Hid (j=V2)/\Hid (cd w g off sz wx c))
   case first=>
    go_wp2_with fail
    go_loopw [10] (fun vj wr=>∃j:Nat,vj=.int .i64 (j:Int)/\j<=j1/\i<=j+2/\a<=j/\Hid (scanDown (fun x=>ltInt c[a]! x) c i j=V2)/\Hid (cd w g off sz wr c)) (fun vj _=>(dJ vj).toNat)
    case atStart=>exact⟨j1,rfl,Ab _,by omega,by omega,HV.out.symm,dV⟩
    case round=>
     obtain⟨j,rfl,cR,gi,qG,HS,dP⟩:=hrel;clear dV;obtain⟨bj,bM⟩:=dP.out.row.iQ;rw[jj.out]at bj bM;by_cases hc:i<=j
     ·have hz:(i:Int)<=(j:Int):=(by omega);go_wp2_with fail;go_big_quiet (first|(go_at_call 155;refine As (jx _ _ _)));go_wp2_with fail
      ·go_roundw
       case rel=>exact⟨j-1,by congr 1;omega,by omega,by omega,by omega,Xn HS.out (by omega) (by omega) (by simp only[iV,Az,Cb,A8];first|omega|exact oB (by assumption)|exact oC (by assumption)),dP.out.drewN _⟩
       case measure=>simp[dJ]<;>omega
      ·go_meet
       case rel=>exact⟨j,rfl,by omega,by omega,by omega,Xp HS.out (fun hq=>by simp only[iV,Az,Cb,A8]at hq;first|omega|exact hq (oC (by assumption))|exact oB (by assumption) hq),dP.out.drewN _⟩
     ·have hz:decide ((i:Int)<=(j:Int))=false:=Bd (by omega);go_wp2_with fail;go_big_quiet (first|(go_at_call 155;refine As (jx _ _ _)));go_wp2_with fail;go_meet
      case rel=>exact⟨j,rfl,by omega,by omega,by omega,Xo HS.out (by omega),dP.out.drewN _⟩
   case rest=>
    obtain⟨j,rfl,IV,PM,PQ,yy,fp⟩:=hcut;clear dV;have aS:=jj.out;by_cases cQ:j<i
    ·have hz:(j:Int)<(i:Int):=(by omega);have E:=amo kF.out (tW.out.trans HU.out) (yy.out.trans HV.out) cQ;rw[E]at ax;go_wp2_with fail;go_ret;exact⟨i,rfl,by omega,_,ax.out,fp.out⟩
    ·have hz:¬((j:Int)<(i:Int)):=(by omega);obtain⟨bj,bM⟩:=fp.out.row.iQ;rw[aS]at bj bM;obtain⟨⟨q0,q1⟩,q2⟩:=(fp.out.put (show i<c.size by omega) c[j]!).row.nZ (show j<_ by simp;omega);have E:=bI (amp kF.out (tW.out.trans HU.out) (yy.out.trans HV.out) cQ);go_wp2_with fail;go_region;have oK:=bI ((fp.out.drew).swap (show i<c.size by omega) (show j<c.size by omega));have pM:Hid ((swp c i j).size=n):=(size_swp _ _ _).trans aS;clear bj bM q1 q2 fp;go_wp2_with fail;go_roundw
     case rel=>exact⟨i+1,j-1,_,by go_num,by congr 1;omega,by omega,by omega,by omega,by omega,by omega,pM,E,oK⟩
     case measure=>simp[dJ]<;>omega
end Go.Proofs.YtpdnofhackjfdaaGreatDoor
