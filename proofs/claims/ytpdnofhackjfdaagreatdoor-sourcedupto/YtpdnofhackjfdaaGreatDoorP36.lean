/- The library's so -/
import Derived.Test.YtpdnofhackjfdaaGreatDoorP35
set_option linter.all false
set_option maxRecDepth 100000
set_option maxHeartbeats 4000000
namespace Go.Proofs.YtpdnofhackjfdaaGreatDoor
open Go.Proofs.Tryz
open Go.RowKit Go.Sort
variable {c c0 d:Array Int} {p:Int->Bool} {F U a b cap first g hi i i1 j j1 lo n off r sz:Nat} {R:Nat×Array Int} {w:World}
theorem cB.YN{w1:World}(h:cB w g off sz w1 d){i' j':Nat}(hi:i<d.size)(hj:j<d.size)(ei:i'=i)(ej:j'=j):cB w g off sz ((w1.setCell ⟨g,off+i',none⟩ (.int .i32 d[j]!)).setCell ⟨g,off+j',none⟩ (.int .i32 d[i]!)) (swp d i j):=by
 subst ei ej;exact h.swap hi hj
theorem oR{p:Prop} [Decidable p](h:(!decide p)=true):¬p:=by simpa using h
theorem oS{p:Prop} [Decidable p](h:(!decide p)=false):p:=by simpa using h
theorem Yt(d:Array Int)(h:hi<=2*r+1):siftDown ltInt hi F r d=d:=by rw[siftDown,dif_pos h]
theorem ae_(h1:2*r+2<hi)(h2:d[F+2*r+1]! <d[F+2*r+2]!)(h3:¬d[F+r]! <d[F+2*r+2]!):siftDown ltInt hi F r d=d:=by
 rw[siftDown,dif_neg (by omega),show F+(2*r+1)+1=F+2*r+2 by omega,show F+(2*r+2)=F+2*r+2 by omega,show F+(2*r+1)=F+2*r+1 by omega,if_pos (by simp[jd,h2];omega),if_pos (by simp[jd];omega)]
theorem ae9(h1:2*r+2<hi)(h2:d[F+2*r+1]! <d[F+2*r+2]!)(h3:d[F+r]! <d[F+2*r+2]!):
 siftDown ltInt hi F (2*r+2) (swp d (F+r) (F+2*r+2))=siftDown ltInt hi F r d:=by
 conv=>rhs;rw[siftDown,dif_neg (by omega),show F+(2*r+1)+1=F+2*r+2 by omega,show F+(2*r+2)=F+2*r+2 by omega,show F+(2*r+1)=F+2*r+1 by omega,if_pos (by simp[jd,h2];omega),if_neg (by simp[jd];omega),dif_pos h1]
theorem Yv(h0:2*r+1<hi)(h1:2*r+2<hi->¬d[F+2*r+1]! <d[F+2*r+2]!)(h3:¬d[F+r]! <d[F+2*r+1]!):siftDown ltInt hi F r d=d:=by
 rw[siftDown,dif_neg (by omega),show F+(2*r+1)+1=F+2*r+2 by omega,show F+(2*r+2)=F+2*r+2 by omega,show F+(2*r+1)=F+2*r+1 by omega,if_neg (by simp[jd];omega),if_pos (by simp[jd];omega)]
theorem Yu(h0:2*r+1<hi)(h1:2*r+2<hi->¬d[F+2*r+1]! <d[F+2*r+2]!)(h3:d[F+r]! <d[F+2*r+1]!):
 siftDown ltInt hi F (2*r+1) (swp d (F+r) (F+2*r+1))=siftDown ltInt hi F r d:=by
 conv=>rhs;rw[siftDown,dif_neg (by omega),show F+(2*r+1)+1=F+2*r+2 by omega,show F+(2*r+2)=F+2*r+2 by omega,show F+(2*r+1)=F+2*r+1 by omega,if_neg (by simp[jd];omega),if_neg (by simp[jd];omega)]
theorem afn(hi F:Nat):∀(k r:Nat) (d:Array Int),hi-r<=k->(siftDown ltInt hi F r d).size=d.size:=by
 intro k;induction k with
 |zero=>intro r d h;rw[Yt d (by omega)]
 |succ k ih=>
  intro r d h;by_cases h0:hi<=2*r+1
  ·rw[Yt d h0]
  ·by_cases h1:2*r+2<hi/\d[F+2*r+1]! <d[F+2*r+2]!
   ·by_cases h3:d[F+r]! <d[F+2*r+2]!
    ·rw[<-ae9 h1.1 h1.2 h3,ih _ _ (by omega),size_swp]
    ·rw[ae_ h1.1 h1.2 h3]
   ·have h_:2*r+2<hi->¬d[F+2*r+1]! <d[F+2*r+2]! :=(fun h hx=>h1 ⟨h,hx⟩);by_cases h3:d[F+r]! <d[F+2*r+1]!
    ·rw[<-Yu (by omega) h_ h3,ih _ _ (by omega),size_swp]
    ·rw[Yv (by omega) h_ h3]
theorem aoE(hd:d.size=n)(hR:iU w g off sz d)(hf:first+hi<=n)(hn:n<1000000000)(nc:lo<=hi):
 Calls prog 175 #[.slice (some (GB g off)) n cap,GW (lo:Int),GW (hi:Int),GW (first:Int)] w fun e w'=>e=.returned (.tuple #[])/\cB w g off sz w' (siftDown ltInt hi first lo d):=by
 go_enter func175,ntmps175
 go_wp2_with fail
 go_loopw [8] (fun vr wr=>∃(r:Nat) (c:Array Int),vr=GW (r:Int)/\r<=hi/\Hid (c.size=n)/\Hid (siftDown ltInt hi first r c=siftDown ltInt hi first lo d)/\Hid (cB w g off sz wr c)) (fun vr _=>hi-(dS vr).toNat)
 case atStart=>exact⟨lo,d,rfl,nc,hd,rfl,cB.refl hR⟩
 case round=>
  obtain⟨r,c,rfl,hr,hc,HE,HW⟩:=hrel;clear hR hd;obtain⟨bl,bT⟩:=HW.o.row.ja;rw[hc.o]at bl bT;by_cases h0:hi<=2*r+1
  ·have h0z:(hi:Int)<=2*(r:Int)+1:=(by omega);go_wp2_with fail;go_end0;have e:c=siftDown ltInt hi first lo d:=by rw[<-HE.o];exact(Yt c h0).symm
   rw[<-e];exact⟨rfl,HW.o⟩
  ·have h0z:¬((hi:Int)<=2*(r:Int)+1):=(by omega);by_cases h1:2*r+2<hi
   ·have h1z:2*(r:Int)+1+1<(hi:Int):=(by omega);go_wp2_with fail;go_big_quiet (first|(go_at_call 155;refine As (jF _ _ _)));go_wp2_with fail
    ·revert nq;intro sA
     have eu:=bP (HW.o.drewN sA);have jN:∀t,t<n->(wr.drewN sA).cell? ⟨g,off+t,none⟩=some (.int .i32 c[t]!):=(bl);have jO:∀t,t<n->(wr.drewN sA).frozen? ⟨g,off+t,none⟩=false:=bT
     clear bl bT HW;generalize wr.drewN sA=wr2 at jN jO eu⊢;have bl:=jN;have bT:=jO;clear jN jO;go_big_quiet (first|(go_at_call 155;refine As (jF _ _ _)));go_wp2_with fail
     ·(try simp only[Exit.inBlock,Exit.then]);refine Bm (Dk rfl _ _ _) rfl ?_
      have e:c=siftDown ltInt hi first lo d:=by rw[<-HE.o];exact(ae_ h1 (by omega) (oR (by assumption))).symm
      rw[<-e];exact⟨rfl,eu.o.drewN _⟩
     ·
      have fH:=bP (eu.o.drewN nq);have jN:∀t,t<n->(wr2.drewN nq).cell? ⟨g,off+t,none⟩=some (.int .i32 c[t]!):=(bl);have jO:∀t,t<n->(wr2.drewN nq).frozen? ⟨g,off+t,none⟩=false:=bT
      clear bl bT eu;generalize wr2.drewN nq=KL at jN jO fH⊢;have bl:=jN;have bT:=jO;clear jN jO;go_region;go_wp2_with fail;go_roundw
      case rel=>exact⟨2*r+2,_,by simp<;>omega,by omega,(size_swp _ _ _).trans hc.o,(ae9 h1 (by omega) (oS (by assumption))).trans HE.o,(fH.o.drew).YN (by have:=hc.o;omega) (by have:=hc.o;omega) rfl (by omega)⟩
      case measure=>simp[dS];omega
    ·revert nq;intro sA
     have eu:=bP (HW.o.drewN sA);have jN:∀t,t<n->(wr.drewN sA).cell? ⟨g,off+t,none⟩=some (.int .i32 c[t]!):=(bl);have jO:∀t,t<n->(wr.drewN sA).frozen? ⟨g,off+t,none⟩=false:=bT
     clear bl bT HW;generalize wr.drewN sA=wr2 at jN jO eu⊢;have bl:=jN;have bT:=jO;clear jN jO;go_big_quiet (first|(go_at_call 155;refine As (jF _ _ _)));go_wp2_with fail
     ·(try simp only[Exit.inBlock,Exit.then]);refine Bm (Dk rfl _ _ _) rfl ?_
      have e:c=siftDown ltInt hi first lo d:=by rw[<-HE.o];exact(Yv (by omega) (fun _=>by omega) (oR (by assumption))).symm
      rw[<-e];exact⟨rfl,eu.o.drewN _⟩
     ·
      have fH:=bP (eu.o.drewN nq);have jN:∀t,t<n->(wr2.drewN nq).cell? ⟨g,off+t,none⟩=some (.int .i32 c[t]!):=(bl);have jO:∀t,t<n->(wr2.drewN nq).frozen? ⟨g,off+t,none⟩=false:=bT
      clear bl bT eu;generalize wr2.drewN nq=KL at jN jO fH⊢;have bl:=jN;have bT:=jO;clear jN jO;go_region;go_wp2_with fail;go_roundw
      case rel=>exact⟨2*r+1,_,by simp<;>omega,by omega,(size_swp _ _ _).trans hc.o,(Yu (by omega) (fun _=>by omega) (oS (by assumption))).trans HE.o,(fH.o.drew).YN (by have:=hc.o;omega) (by have:=hc.o;omega) rfl (by omega)⟩
      case measure=>simp[dS];omega
   ·have h1z:decide (2*(r:Int)+1+1<(hi:Int))=false:=by simp;omega
    go_wp2_with fail
    go_big_quiet (first|(go_at_call 155;refine As (jF _ _ _)))
    go_wp2_with fail
    revert nq;intro sA
    have eu:=bP (HW.o.drewN sA);have jN:∀t,t<n->(wr.drewN sA).cell? ⟨g,off+t,none⟩=some (.int .i32 c[t]!):=(bl);have jO:∀t,t<n->(wr.drewN sA).frozen? ⟨g,off+t,none⟩=false:=bT
    clear bl bT HW;generalize wr.drewN sA=wr2 at jN jO eu⊢;have bl:=jN;have bT:=jO;clear jN jO;go_big_quiet (first|(go_at_call 155;refine As (jF _ _ _)));go_wp2_with fail
    ·(try simp only[Exit.inBlock,Exit.then]);refine Bm (Dk rfl _ _ _) rfl ?_
     have e:c=siftDown ltInt hi first lo d:=by rw[<-HE.o];exact(Yv (by omega) (fun hq=>absurd hq h1) (oR (by assumption))).symm
     rw[<-e];exact⟨rfl,eu.o.drewN _⟩
    ·
     have fH:=bP (eu.o.drewN nq);have jN:∀t,t<n->(wr2.drewN nq).cell? ⟨g,off+t,none⟩=some (.int .i32 c[t]!):=(bl);have jO:∀t,t<n->(wr2.drewN nq).frozen? ⟨g,off+t,none⟩=false:=bT
     clear bl bT eu;generalize wr2.drewN nq=KL at jN jO fH⊢;have bl:=jN;have bT:=jO;clear jN jO;go_region;go_wp2_with fail;go_roundw
     case rel=>exact⟨2*r+1,_,by simp<;>omega,by omega,(size_swp _ _ _).trans hc.o,(Yu (by omega) (fun hq=>absurd hq h1) (oS (by assumption))).trans HE.o,(fH.o.drew).YN (by have:=hc.o;omega) (by have:=hc.o;omega) rfl (by omega)⟩
     case measure=>simp[dS];omega
theorem afo{lo' hi' first':Int}(hd:d.size=n)(hR:iU w g off sz d)(h1:lo'=(lo:Int))(h2:hi'=(hi:Int))(h3:first'=(first:Int))(hf:first+hi<=n)(hn:n<1000000000)(nc:lo<=hi):
 Calls prog 175 #[.slice (some (GB g off)) n cap,GW lo',GW hi',GW first'] w fun e w'=>e=.returned (.tuple #[])/\cB w g off sz w' (siftDown ltInt hi first lo d):=by
 subst h1 h2 h3;exact aoE hd hR hf hn nc
theorem iU.oy(h:iU w g off sz d){t:Nat}(ht:t<d.size):(∃r,w.cell? ⟨g,off+t,none⟩=some (.int .i32 r))/\w.frozen? ⟨g,off+t,none⟩=false:=by
 obtain⟨h1,h2⟩:=h.ja;exact⟨⟨_,h1 t ht⟩,h2 t ht⟩
theorem YH(h:scanUp p d j i=U)(cY:i<=j)(hp:p d[i]! =true):scanUp p d j (i+1)=U:=by
 rw[<-h];conv=>rhs;unfold scanUp
 rw[if_pos (by simp[cY,hp])]
theorem YJ(h:scanUp p d j i=U)(hp:¬p d[i]! =true):i=U:=by
 rw[<-h];unfold scanUp;rw[if_neg (by simp[hp])]
theorem YI(h:scanUp p d j i=U)(cY:¬i<=j):i=U:=by
 rw[<-h];unfold scanUp;rw[if_neg (by simp[cY])]
theorem YK(h:scanDown p d i j=U)(cY:i<=j)(h1:1<=j)(hp:p d[j]! =true):scanDown p d i (j-1)=U:=by
 obtain⟨k,rfl⟩:∃k,j=k+1:=⟨j-1,by omega⟩
 rw[<-h];conv=>rhs;unfold scanDown
 rw[if_pos (by simp[cY,hp])];rfl
theorem YM(h:scanDown p d i j=U)(hp:¬p d[j]! =true):j=U:=by
 rw[<-h]
 cases j with
 |zero=>rfl
 |succ k=>
  unfold scanDown;rw[if_neg (by simp[hp])]
theorem YL(h:scanDown p d i j=U)(cY:¬i<=j):j=U:=by
 rw[<-h]
 cases j with
 |zero=>rfl
 |succ k=>
  unfold scanDown;rw[if_neg (by simp[cY])]
theorem am_{p:Nat}(h0:c0=swp d a p)(hi:i=scanUp (fun x=>ltInt x c0[a]!) c0 (b-1) (a+1))(hj:j=scanDown (fun x=>!ltInt x c0[a]!) c0 i (b-1))(cY:j<i):partition ltInt d a b p=(j,true,swp c0 j a):=by
 unfold partition;simp only[<-h0,<-hi,<-hj];rw[if_pos cY]
theorem anb{p:Nat}(h0:c0=swp d a p)(hi:i=scanUp (fun x=>ltInt x c0[a]!) c0 (b-1) (a+1))(hj:j=scanDown (fun x=>!ltInt x c0[a]!) c0 i (b-1))(cY:¬j<i)(hR:R=partLoop ltInt a (i+1) (j-1) (swp c0 i j)):partition ltInt d a b p=(R.1,false,swp R.2 R.1 a):=by
 unfold partition;simp only[<-h0,<-hi,<-hj];rw[if_neg cY,<-hR]
theorem anD(h:partLoop ltInt a i1 j1 c=R)(hi:i=scanUp (fun x=>ltInt x c[a]!) c j1 i1)(hj:j=scanDown (fun x=>!ltInt x c[a]!) c i j1)(cY:j<i):R=(j,c):=by
 rw[<-h,partLoop_eq,<-hi,<-hj,if_pos cY]
theorem anE(h:partLoop ltInt a i1 j1 c=R)(hi:i=scanUp (fun x=>ltInt x c[a]!) c j1 i1)(hj:j=scanDown (fun x=>!ltInt x c[a]!) c i j1)(cY:¬j<i):partLoop ltInt a (i+1) (j-1) (swp c i j)=R:=by
 rw[<-h];conv=>rhs;rw[partLoop_eq,<-hi,<-hj,if_neg cY]
theorem anj(h:partEqLoop ltInt a i1 j1 c=R)(hi:i=scanUp (fun x=>!ltInt c[a]! x) c j1 i1)(hj:j=scanDown (fun x=>ltInt c[a]! x) c i j1)(cY:j<i):R=(i,c):=by
 rw[<-h,partEqLoop_eq,<-hi,<-hj,if_pos cY]
theorem ank(h:partEqLoop ltInt a i1 j1 c=R)(hi:i=scanUp (fun x=>!ltInt c[a]! x) c j1 i1)(hj:j=scanDown (fun x=>ltInt c[a]! x) c i j1)(cY:¬j<i):partEqLoop ltInt a (i+1) (j-1) (swp c i j)=R:=by
 rw[<-h];conv=>rhs;rw[partEqLoop_eq,<-hi,<-hj,if_neg cY]
def agr(w:World)(g off sz a b p:Nat)(d:Array Int)(m:Nat)(t:Bool)(w':World):Prop:=(a<=m/\m<b)/\∃c,partition ltInt d a b p=(m,t,c)/\cB w g off sz w' c
def ags(w:World)(g off sz a b p:Nat)(d:Array Int)(m:Nat)(w':World):Prop:=(a<m/\m<=b)/\∃c,partitionEqual ltInt d a b p=(m,c)/\cB w g off sz w' c
theorem aju(hd:d.size=n)(hR:iU w g off sz d)(lG:a<b)(hb:b<=n)(hn:n<1000000000):
 Calls prog 150 #[.slice (some (GB g off)) n cap,GW (a:Int),GW (b:Int)] w fun e w'=>e=.returned (.tuple #[])/\cB w g off sz w' (heapSort ltInt d a b):=by
 obtain⟨D1,Vw⟩:∃D1,D1=heapBuild ltInt (b-a) a ((b-a-1) /2+1) d:=⟨_,rfl⟩
 have ab0:heapPop ltInt a (b-a) D1=heapSort ltInt d a b:=by rw[Vw];rfl
 have IX:=bP Vw;have TW:=bP ab0;clear Vw ab0;generalize heapSort ltInt d a b=DF at TW⊢;go_enter func150,ntmps150;go_wp2_with fail;go_loopw [9] (fun vi wr=>∃(i:Nat) (c:Array Int),vi=GW ((i:Int)-1)/\i<=b-a/\Hid (c.size=n)/\Hid (heapBuild ltInt (b-a) a i c=D1)/\Hid (cB w g off sz wr c)) (fun vi _=>(dS vi+1).toNat)
 case atStart=>exact⟨(b-a-1) /2+1,d,by congr 1;omega,by omega,hd,IX.o.symm,cB.refl hR⟩
 case round=>
  obtain⟨i,c,rfl,oE,hc,HE,HW⟩:=hrel;clear hR hd IX
  cases i with
  |succ i=>
   have hz:(0:Int)<=((i+1:Nat):Int)-1:=(by omega);have G5:((i+1:Nat):Int)-1=(i:Int):=(by omega);have F:=bP (afo (cap:=cap) (lo:=i) (hi:=b-a) (first:=a) (lo':=(i:Int)) (hi':=(b:Int)-(a:Int)) (first':=(a:Int)) hc.o HW.o.row rfl (by omega) rfl (by omega) hn (by omega));go_wp2_with fail;refine(F.o).mono ?_;rintro e w1 ⟨rfl,P1⟩;have oZ:=bP (HW.o.trans P1);clear P1 F HW;go_wp2_with fail;go_roundw
   case rel=>exact⟨i,_,by congr 1,by omega,(afn _ _ _ _ _ (Ab _)).trans hc.o,HE,oZ⟩
   case measure=>simp[dS]<;>omega
  |zero=>
   have hz:¬((0:Int)<=((0:Nat):Int)-1):=(by omega);go_wp2_with fail;go_loopw [10] (fun vi wr=>∃(i:Nat) (c2:Array Int),vi=GW ((i:Int)-1)/\i<=b-a/\Hid (c2.size=n)/\Hid (heapPop ltInt a i c2=DF)/\Hid (cB w g off sz wr c2)) (fun vi _=>(dS vi+1).toNat)
   case atStart=>exact⟨b-a,c,by congr 1;omega,by omega,hc,by have e:c=D1:=HE.o;rw[e];exact TW,HW⟩
   case round=>
    obtain⟨i,c2,rfl,lH,jq,ji,eu⟩:=hrel;clear HW TW HE hc
    cases i with
    |succ i=>
     have hz:(0:Int)<=((i+1:Nat):Int)-1:=(by omega);have G5:((i+1:Nat):Int)-1=(i:Int):=(by omega);go_wp2_with fail;obtain⟨bl,bT⟩:=eu.o.row.ja;rw[jq.o]at bl bT;have gg:=jq.o;obtain⟨⟨q0,q1⟩,q2⟩:=(eu.o.put (show a<c2.size by omega) c2[a+i]!).row.oy (show a+i<_ by simp;omega);go_region;have fH:=bP ((eu.o.drew).swap (show a<c2.size by omega) (show a+i<c2.size by omega));have F:=bP (afo (cap:=cap) (lo:=0) (hi:=i) (first:=a) (lo':=0) (hi':=(i:Int)) (first':=(a:Int)) ((size_swp _ _ _).trans gg) fH.o.row rfl rfl rfl (by omega) hn (by omega));clear eu bl bT q1 q2 gg;go_wp2_with fail;refine(F.o).mono ?_;rintro e w1 ⟨rfl,P1⟩;have o7:=bP (fH.o.trans P1);clear P1 F fH;go_wp2_with fail;go_roundw
     case rel=>exact⟨i,_,by congr 1,by omega,((afn _ _ _ _ _ (Ab _)).trans (size_swp _ _ _)).trans jq.o,ji,o7⟩
     case measure=>simp[dS]<;>omega
    |zero=>
     have hz:¬((0:Int)<=((0:Nat):Int)-1):=(by omega);go_wp2_with fail;go_end0;have e:c2=DF:=ji.o;rw[<-e];exact⟨rfl,eu.o⟩
theorem ana{p:Nat}(hd:d.size=n)(hR:iU w g off sz d)(lG:a+2<=b)(hb:b<=n)(hn:n<1000000000)(hp:a<=p/\p<b):
 Calls prog 157 #[.slice (some (GB g off)) n cap,GW (a:Int),GW (b:Int),GW (p:Int)] w fun e w'=>∃(m:Nat) (t:Bool),e=.returned (.tuple #[GW (m:Int),.bool t])/\agr w g off sz a b p d m t w':=by
 have lT:=bP (cB.refl hR);clear hR;go_enter func157,ntmps157;obtain⟨bl,bT⟩:=lT.o.row.ja;rw[hd]at bl bT;obtain⟨⟨q0,q1⟩,q2⟩:=(lT.o.put (show a<d.size by omega) d[p]!).row.oy (show p<_ by simp;omega);go_wp2_with fail;go_region;have HW:=bP ((lT.o.drew).swap (show a<d.size by omega) (show p<d.size by omega));obtain⟨c0,nQ⟩:∃c0,c0=swp d a p:=⟨_,rfl⟩
 rw[<-nQ]at HW;have js:Hid (c0.size=n):=by rw[nQ];exact(size_swp _ _ _).trans hd
 have IV:=bP nQ;obtain⟨U,hU⟩:∃U,U=scanUp (fun x=>ltInt x c0[a]!) c0 (b-1) (a+1):=⟨_,rfl⟩
 have HU:=bP hU;clear bl bT q1 q2 lT nQ hU hd;go_upto_block 0 with fail
 go_cut [10] (fun sx wx=>∃i:Nat,sx=GW (i:Int)/\a+1<=i/\i<=b/\Hid (i=U)/\Hid (cB w g off sz wx c0))
 case first=>
  go_wp2_with fail
  go_loopw [10] (fun vi wr=>∃i:Nat,vi=GW (i:Int)/\(a+1)<=i/\i<=b/\Hid (scanUp (fun x=>ltInt x c0[a]!) c0 (b-1) i=U)/\Hid (cB w g off sz wr c0)) (fun vi _=>b-(dS vi).toNat)
  case atStart=>exact⟨(a+1),by go_num,Ab _,by omega,HU.o.symm,HW⟩
  case round=>
   obtain⟨i,rfl,cZ,gg,HS,dZ⟩:=hrel;clear HW;obtain⟨bl,bT⟩:=dZ.o.row.ja;rw[js.o]at bl bT;by_cases hc:i+1<=b
   ·have hz:(i:Int)<=(b:Int)-1:=(by omega);go_wp2_with fail;go_big_quiet (first|(go_at_call 155;refine As (jF _ _ _)));go_wp2_with fail
    ·go_roundw
     case rel=>exact⟨i+1,by go_num,by omega,by omega,YH HS.o (by omega) (by simp only[jd,A5,Cf,Bb];first|omega|exact oR (by assumption)|exact oS (by assumption)),dZ.o.drewN _⟩
     case measure=>simp[dS]<;>omega
    ·go_meet
     case rel=>exact⟨i,rfl,by omega,by omega,YJ HS.o (fun hq=>by simp only[jd,A5,Cf,Bb]at hq;first|omega|exact hq (oS (by assumption))|exact oR (by assumption) hq),dZ.o.drewN _⟩
   ·have hz:decide ((i:Int)<=(b:Int)-1)=false:=Bg (by omega);go_wp2_with fail;go_big_quiet (first|(go_at_call 155;refine As (jF _ _ _)));go_wp2_with fail;go_meet
    case rel=>exact⟨i,rfl,by omega,by omega,YI HS.o (by omega),dZ.o.drewN _⟩
 case rest=>
  obtain⟨i,rfl,oE,lH,ux,eu⟩:=hcut;clear HW;obtain⟨V,hV⟩:∃V,V=scanDown (fun x=>!ltInt x c0[a]!) c0 i (b-1):=⟨_,rfl⟩
  have HV:=bP hV;clear hV;go_upto_block 2 with fail
  go_cut [11] (fun sx wx=>∃j:Nat,sx=GW (j:Int)/\j<=(b-1)/\i<=j+2/\a<=j/\Hid (j=V)/\Hid (cB w g off sz wx c0))
  case first=>
   go_wp2_with fail
   go_loopw [11] (fun vj wr=>∃j:Nat,vj=GW (j:Int)/\j<=(b-1)/\i<=j+2/\a<=j/\Hid (scanDown (fun x=>!ltInt x c0[a]!) c0 i j=V)/\Hid (cB w g off sz wr c0)) (fun vj _=>(dS vj).toNat)
   case atStart=>exact⟨(b-1),by congr 1;omega,Ab _,by omega,by omega,HV.o.symm,eu⟩
   case round=>
    obtain⟨j,rfl,cZ,gg,ri,HS,dZ⟩:=hrel;clear eu;obtain⟨bl,bT⟩:=dZ.o.row.ja;rw[js.o]at bl bT;by_cases hc:i<=j
    ·have hz:(i:Int)<=(j:Int):=(by omega);go_wp2_with fail;go_big_quiet (first|(go_at_call 155;refine As (jF _ _ _)));go_wp2_with fail
     ·go_roundw
      case rel=>exact⟨j-1,by congr 1;omega,by omega,by omega,by omega,YK HS.o (by omega) (by omega) (by simp only[jd,A5,Cf,Bb];first|omega|exact oR (by assumption)|exact oS (by assumption)),dZ.o.drewN _⟩
      case measure=>simp[dS]<;>omega
     ·go_meet
      case rel=>exact⟨j,rfl,by omega,by omega,by omega,YM HS.o (fun hq=>by simp only[jd,A5,Cf,Bb]at hq;first|omega|exact hq (oS (by assumption))|exact oR (by assumption) hq),dZ.o.drewN _⟩
    ·have hz:decide ((i:Int)<=(j:Int))=false:=Bg (by omega);go_wp2_with fail;go_big_quiet (first|(go_at_call 155;refine As (jF _ _ _)));go_wp2_with fail;go_meet
     case rel=>exact⟨j,rfl,by omega,by omega,by omega,YL HS.o (by omega),dZ.o.drewN _⟩
  case rest=>
   obtain⟨j,rfl,r_,lY,zh,zi,fH⟩:=hcut;clear eu;have aW:=js.o;by_cases cY:j<i
   ·have hz:(j:Int)<(i:Int):=(by omega);obtain⟨bl,bT⟩:=fH.o.row.ja;rw[aW]at bl bT;obtain⟨⟨q0,q1⟩,q2⟩:=(fH.o.put (show j<c0.size by omega) c0[a]!).row.oy (show a<_ by simp;omega);have aA:Hid (partition ltInt d a b p=(j,true,swp c0 j a)):=am_ IV.o (ux.o.trans HU.o) (zi.o.trans HV.o) cY;go_wp2_with fail;go_region;have o7:=bP ((fH.o.drew).swap (show j<c0.size by omega) (show a<c0.size by omega));clear bl bT q1 q2 fH;go_wp2_with fail;go_ret2;exact⟨j,true,rfl,by omega,_,aA.o,o7.o⟩
   ·have hz:¬((j:Int)<(i:Int)):=(by omega);obtain⟨bl,bT⟩:=fH.o.row.ja;rw[aW]at bl bT;obtain⟨⟨q0,q1⟩,q2⟩:=(fH.o.put (show i<c0.size by omega) c0[j]!).row.oy (show j<_ by simp;omega);obtain⟨R,vR⟩:∃R,R=partLoop ltInt a (i+1) (j-1) (swp c0 i j):=⟨_,rfl⟩
    have aA:Hid (partition ltInt d a b p=(R.1,false,swp R.2 R.1 a)):=anb IV.o (ux.o.trans HU.o) (zi.o.trans HV.o) cY vR;have kQ:=bP vR;clear vR;go_wp2_with fail;go_region;have o7:=bP ((fH.o.drew).swap (show i<c0.size by omega) (show j<c0.size by omega));have qi:Hid ((swp c0 i j).size=n):=(size_swp _ _ _).trans aW;clear bl bT q1 q2 fH;go_wp2_with fail;go_loopw [10,11] (fun vi vj wr=>∃(i j:Nat) (c:Array Int),vi=GW (i:Int)/\vj=GW (j:Int)/\a+1<=i/\i<=b/\a<=j/\j<b/\i<=j+2/\Hid (c.size=n)/\Hid (partLoop ltInt a i j c=R)/\Hid (cB w g off sz wr c)) (fun vi vj _=>(dS vj+2-dS vi).toNat)
    case atStart=>exact⟨i+1,j-1,_,by go_num,by congr 1;omega,by omega,by omega,by omega,by omega,by omega,qi,kQ.o.symm,o7⟩
    case round=>
     clear o7 cY hz r_ lY zh oE lH js aW IV HU HV ux zi kQ qi;obtain⟨i1,j1,c,rfl,rfl,oE,lH,r_,lY,ajK,js,kQ,HW⟩:=hrel;obtain⟨U2,hU⟩:∃U2,U2=scanUp (fun x=>ltInt x c[a]!) c j1 i1:=⟨_,rfl⟩
     have HU:=bP hU;clear hU;go_upto_block 6 with fail
     go_cut [10] (fun sx wx=>∃i:Nat,sx=GW (i:Int)/\i1<=i/\i<=b/\i<=j1+2/\Hid (i=U2)/\Hid (cB w g off sz wx c))
     case first=>
      go_wp2_with fail
      go_loopw [10] (fun vi wr=>∃i:Nat,vi=GW (i:Int)/\i1<=i/\i<=b/\i<=j1+2/\Hid (scanUp (fun x=>ltInt x c[a]!) c j1 i=U2)/\Hid (cB w g off sz wr c)) (fun vi _=>b-(dS vi).toNat)
      case atStart=>exact⟨i1,rfl,Ab _,by omega,by omega,HU.o.symm,HW⟩
      case round=>
       obtain⟨i,rfl,cZ,gg,ri,HS,dZ⟩:=hrel;clear HW;obtain⟨bl,bT⟩:=dZ.o.row.ja;rw[js.o]at bl bT;by_cases hc:i<=j1
       ·have hz:(i:Int)<=(j1:Int):=(by omega);go_wp2_with fail;go_big_quiet (first|(go_at_call 155;refine As (jF _ _ _)));go_wp2_with fail
        ·go_roundw
         case rel=>exact⟨i+1,by go_num,by omega,by omega,by omega,YH HS.o (by omega) (by simp only[jd,A5,Cf,Bb];first|omega|exact oR (by assumption)|exact oS (by assumption)),dZ.o.drewN _⟩
         case measure=>simp[dS]<;>omega
        ·go_meet
         case rel=>exact⟨i,rfl,by omega,by omega,by omega,YJ HS.o (fun hq=>by simp only[jd,A5,Cf,Bb]at hq;first|omega|exact hq (oS (by assumption))|exact oR (by assumption) hq),dZ.o.drewN _⟩
       ·have hz:decide ((i:Int)<=(j1:Int))=false:=Bg (by omega);go_wp2_with fail;go_big_quiet (first|(go_at_call 155;refine As (jF _ _ _)));go_wp2_with fail;go_meet
        case rel=>exact⟨i,rfl,by omega,by omega,by omega,YI HS.o (by omega),dZ.o.drewN _⟩
     case rest=>
      obtain⟨i,rfl,Rf,hi4,hi5,ux,eu⟩:=hcut;clear HW;obtain⟨V2,hV⟩:∃V2,V2=scanDown (fun x=>!ltInt x c[a]!) c i j1:=⟨_,rfl⟩
      have HV:=bP hV;clear hV;go_upto_block 8 with fail
      go_cut [11] (fun sx wx=>∃j:Nat,sx=GW (j:Int)/\j<=j1/\i<=j+2/\a<=j/\Hid (j=V2)/\Hid (cB w g off sz wx c))
      case first=>
       go_wp2_with fail
       go_loopw [11] (fun vj wr=>∃j:Nat,vj=GW (j:Int)/\j<=j1/\i<=j+2/\a<=j/\Hid (scanDown (fun x=>!ltInt x c[a]!) c i j=V2)/\Hid (cB w g off sz wr c)) (fun vj _=>(dS vj).toNat)
       case atStart=>exact⟨j1,rfl,Ab _,by omega,by omega,HV.o.symm,eu⟩
       case round=>
        obtain⟨j,rfl,cZ,gg,ri,HS,dZ⟩:=hrel;clear eu;obtain⟨bl,bT⟩:=dZ.o.row.ja;rw[js.o]at bl bT;by_cases hc:i<=j
        ·have hz:(i:Int)<=(j:Int):=(by omega);go_wp2_with fail;go_big_quiet (first|(go_at_call 155;refine As (jF _ _ _)));go_wp2_with fail
         ·go_roundw
          case rel=>exact⟨j-1,by congr 1;omega,by omega,by omega,by omega,YK HS.o (by omega) (by omega) (by simp only[jd,A5,Cf,Bb];first|omega|exact oR (by assumption)|exact oS (by assumption)),dZ.o.drewN _⟩
          case measure=>simp[dS]<;>omega
         ·go_meet
          case rel=>exact⟨j,rfl,by omega,by omega,by omega,YM HS.o (fun hq=>by simp only[jd,A5,Cf,Bb]at hq;first|omega|exact hq (oS (by assumption))|exact oR (by assumption) hq),dZ.o.drewN _⟩
        ·have hz:decide ((i:Int)<=(j:Int))=false:=Bg (by omega);go_wp2_with fail;go_big_quiet (first|(go_at_call 155;refine As (jF _ _ _)));go_wp2_with fail;go_meet
         case rel=>exact⟨j,rfl,by omega,by omega,by omega,YL HS.o (by omega),dZ.o.drewN _⟩
      case rest=>
       obtain⟨j,rfl,zh,Rh,Ri,zi,fH⟩:=hcut;clear eu;have aW:=js.o;by_cases cY:j<i
       ·have hz:(j:Int)<(i:Int):=(by omega);obtain⟨bl,bT⟩:=fH.o.row.ja;rw[aW]at bl bT;obtain⟨⟨q0,q1⟩,q2⟩:=(fH.o.put (show j<c.size by omega) c[a]!).row.oy (show a<_ by simp;omega);have E:=anD kQ.o (ux.o.trans HU.o) (zi.o.trans HV.o) cY;rw[E]at aA;go_wp2_with fail;go_region;have o7:=bP ((fH.o.drew).swap (show j<c.size by omega) (show a<c.size by omega));clear bl bT q1 q2 fH;go_wp2_with fail;go_ret2;exact⟨j,false,rfl,by omega,_,aA.o,o7.o⟩
       ·have hz:¬((j:Int)<(i:Int)):=(by omega);obtain⟨bl,bT⟩:=fH.o.row.ja;rw[aW]at bl bT;obtain⟨⟨q0,q1⟩,q2⟩:=(fH.o.put (show i<c.size by omega) c[j]!).row.oy (show j<_ by simp;omega);have E:=bP (anE kQ.o (ux.o.trans HU.o) (zi.o.trans HV.o) cY);go_wp2_with fail;go_region;have o7:=bP ((fH.o.drew).swap (show i<c.size by omega) (show j<c.size by omega));have qi:Hid ((swp c i j).size=n):=(size_swp _ _ _).trans aW;clear bl bT q1 q2 fH;go_wp2_with fail;go_roundw
        case rel=>exact⟨i+1,j-1,_,by go_num,by congr 1;omega,by omega,by omega,by omega,by omega,by omega,qi,E,o7⟩
        case measure=>simp[dS]<;>omega
theorem anl{p:Nat}(hd:d.size=n)(hR:iU w g off sz d)(lG:a+2<=b)(hb:b<=n)(hn:n<1000000000)(hp:a<=p/\p<b):
 Calls prog 156 #[.slice (some (GB g off)) n cap,GW (a:Int),GW (b:Int),GW (p:Int)] w fun e w'=>∃m:Nat,e=.returned (GW (m:Int))/\ags w g off sz a b p d m w':=by
 have lT:=bP (cB.refl hR);clear hR;go_enter func156,ntmps156;obtain⟨bl,bT⟩:=lT.o.row.ja;rw[hd]at bl bT;obtain⟨⟨q0,q1⟩,q2⟩:=(lT.o.put (show a<d.size by omega) d[p]!).row.oy (show p<_ by simp;omega);obtain⟨R,vR⟩:∃R,R=partEqLoop ltInt a (a+1) (b-1) (swp d a p):=⟨_,rfl⟩
 have aA:Hid (partitionEqual ltInt d a b p=R):=vR.symm;have kQ:=bP vR;clear vR;go_wp2_with fail;go_region;have HW:=bP ((lT.o.drew).swap (show a<d.size by omega) (show p<d.size by omega));have qi:Hid ((swp d a p).size=n):=(size_swp _ _ _).trans hd;clear bl bT q1 q2 lT hd;go_wp2_with fail;go_loopw [9,10] (fun vi vj wr=>∃(i j:Nat) (c:Array Int),vi=GW (i:Int)/\vj=GW (j:Int)/\a+1<=i/\i<=b/\a<=j/\j<b/\i<=j+2/\Hid (c.size=n)/\Hid (partEqLoop ltInt a i j c=R)/\Hid (cB w g off sz wr c)) (fun vi vj _=>(dS vj+2-dS vi).toNat)
 case atStart=>exact⟨a+1,b-1,_,by go_num,by congr 1;omega,by omega,by omega,by omega,by omega,by omega,qi,kQ.o.symm,HW⟩
 case round=>
  clear HW kQ qi;obtain⟨i1,j1,c,rfl,rfl,oE,lH,r_,lY,ajK,js,kQ,HW⟩:=hrel;obtain⟨U2,hU⟩:∃U2,U2=scanUp (fun x=>!ltInt c[a]! x) c j1 i1:=⟨_,rfl⟩
  have HU:=bP hU;clear hU;go_upto_block 2 with fail
  go_cut [9] (fun sx wx=>∃i:Nat,sx=GW (i:Int)/\i1<=i/\i<=b/\i<=j1+2/\Hid (i=U2)/\Hid (cB w g off sz wx c))
  case first=>
   go_wp2_with fail
   go_loopw [9] (fun vi wr=>∃i:Nat,vi=GW (i:Int)/\i1<=i/\i<=b/\i<=j1+2/\Hid (scanUp (fun x=>!ltInt c[a]! x) c j1 i=U2)/\Hid (cB w g off sz wr c)) (fun vi _=>b-(dS vi).toNat)
   case atStart=>exact⟨i1,rfl,Ab _,by omega,by omega,HU.o.symm,HW⟩
   case round=>
    obtain⟨i,rfl,cZ,gg,ri,HS,dZ⟩:=hrel;clear HW;obtain⟨bl,bT⟩:=dZ.o.row.ja;rw[js.o]at bl bT;by_cases hc:i<=j1
    ·have hz:(i:Int)<=(j1:Int):=(by omega);go_wp2_with fail;go_big_quiet (first|(go_at_call 155;refine As (jF _ _ _)));go_wp2_with fail
     ·go_roundw
      case rel=>exact⟨i+1,by go_num,by omega,by omega,by omega,YH HS.o (by omega) (by simp only[jd,A5,Cf,Bb];first|omega|exact oR (by assumption)|exact oS (by assumption)),dZ.o.drewN _⟩
      case measure=>simp[dS]<;>omega
     ·go_meet
      case rel=>exact⟨i,rfl,by omega,by omega,by omega,YJ HS.o (fun hq=>by simp only[jd,A5,Cf,Bb]at hq;first|omega|exact hq (oS (by assumption))|exact oR (by assumption) hq),dZ.o.drewN _⟩
    ·have hz:decide ((i:Int)<=(j1:Int))=false:=Bg (by omega);go_wp2_with fail;go_big_quiet (first|(go_at_call 155;refine As (jF _ _ _)));go_wp2_with fail;go_meet
     case rel=>exact⟨i,rfl,by omega,by omega,by omega,YI HS.o (by omega),dZ.o.drewN _⟩
  case rest=>
   obtain⟨i,rfl,Rf,hi4,hi5,ux,eu⟩:=hcut;clear HW;obtain⟨V2,hV⟩:∃V2,V2=scanDown (fun x=>ltInt c[a]! x) c i j1:=⟨_,rfl⟩
   have HV:=bP hV;clear hV;go_upto_block 4 with fail
   go_cut [10] (fun sx wx=>∃j:Nat,sx=GW (j:Int)/\j<=j1/\i<=j+2/\a<=j/\Hid (j=V2)/\Hid (cB w g off sz wx c))
   case first=>
    go_wp2_with fail
    go_loopw [10] (fun vj wr=>∃j:Nat,vj=GW (j:Int)/\j<=j1/\i<=j+2/\a<=j/\Hid (scanDown (fun x=>ltInt c[a]! x) c i j=V2)/\Hid (cB w g off sz wr c)) (fun vj _=>(dS vj).toNat)
    case atStart=>exact⟨j1,rfl,Ab _,by omega,by omega,HV.o.symm,eu⟩
    case round=>
     obtain⟨j,rfl,cZ,gg,ri,HS,dZ⟩:=hrel;clear eu;obtain⟨bl,bT⟩:=dZ.o.row.ja;rw[js.o]at bl bT;by_cases hc:i<=j
     ·have hz:(i:Int)<=(j:Int):=(by omega);go_wp2_with fail;go_big_quiet (first|(go_at_call 155;refine As (jF _ _ _)));go_wp2_with fail
      ·go_roundw
       case rel=>exact⟨j-1,by congr 1;omega,by omega,by omega,by omega,YK HS.o (by omega) (by omega) (by simp only[jd,A5,Cf,Bb];first|omega|exact oR (by assumption)|exact oS (by assumption)),dZ.o.drewN _⟩
       case measure=>simp[dS]<;>omega
      ·go_meet
       case rel=>exact⟨j,rfl,by omega,by omega,by omega,YM HS.o (fun hq=>by simp only[jd,A5,Cf,Bb]at hq;first|omega|exact hq (oS (by assumption))|exact oR (by assumption) hq),dZ.o.drewN _⟩
     ·have hz:decide ((i:Int)<=(j:Int))=false:=Bg (by omega);go_wp2_with fail;go_big_quiet (first|(go_at_call 155;refine As (jF _ _ _)));go_wp2_with fail;go_meet
      case rel=>exact⟨j,rfl,by omega,by omega,by omega,YL HS.o (by omega),dZ.o.drewN _⟩
   case rest=>
    obtain⟨j,rfl,zh,Rh,Ri,zi,fH⟩:=hcut;clear eu;have aW:=js.o;by_cases cY:j<i
    ·have hz:(j:Int)<(i:Int):=(by omega);have E:=anj kQ.o (ux.o.trans HU.o) (zi.o.trans HV.o) cY;rw[E]at aA;go_wp2_with fail;go_ret;exact⟨i,rfl,by omega,_,aA.o,fH.o⟩
    ·have hz:¬((j:Int)<(i:Int)):=(by omega);obtain⟨bl,bT⟩:=fH.o.row.ja;rw[aW]at bl bT;obtain⟨⟨q0,q1⟩,q2⟩:=(fH.o.put (show i<c.size by omega) c[j]!).row.oy (show j<_ by simp;omega);have E:=bP (ank kQ.o (ux.o.trans HU.o) (zi.o.trans HV.o) cY);go_wp2_with fail;go_region;have o7:=bP ((fH.o.drew).swap (show i<c.size by omega) (show j<c.size by omega));have qi:Hid ((swp c i j).size=n):=(size_swp _ _ _).trans aW;clear bl bT q1 q2 fH;go_wp2_with fail;go_roundw
     case rel=>exact⟨i+1,j-1,_,by go_num,by congr 1;omega,by omega,by omega,by omega,by omega,by omega,qi,E,o7⟩
     case measure=>simp[dS]<;>omega
