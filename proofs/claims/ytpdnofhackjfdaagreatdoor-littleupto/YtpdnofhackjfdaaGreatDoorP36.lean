/- The library's so -/
import Derived.Test.YtpdnofhackjfdaaGreatDoorP35
set_option linter.all false
set_option maxRecDepth 100000
set_option maxHeartbeats 4000000
namespace Go.Proofs.YtpdnofhackjfdaaGreatDoor
open Go.Proofs.Tryz
open Go.RowKit Go.Sort
variable {c c0 d:Array Int} {p:Int->Bool} {F U a b cap first g hi i i1 j j1 lo n off r sz:Nat} {R:Nat×Array Int} {w:World}
theorem cu.XB{w1:World}(h:cu w g off sz w1 d){i' j':Nat}(hi:i<d.size)(hj:j<d.size)(ei:i'=i)(ej:j'=j):cu w g off sz ((w1.setCell ⟨g,off+i',none⟩ (.int .i32 d[j]!)).setCell ⟨g,off+j',none⟩ (.int .i32 d[i]!)) (swp d i j):=by
 subst ei ej;exact h.swap hi hj
theorem oJ{p:Prop} [Decidable p](h:(!decide p)=true):¬p:=by simpa using h
theorem oK{p:Prop} [Decidable p](h:(!decide p)=false):p:=by simpa using h
theorem Xh(d:Array Int)(h:hi<=2*r+1):siftDown ltInt hi F r d=d:=by rw[siftDown,dif_pos h]
theorem aen(h1:2*r+2<hi)(h2:d[F+2*r+1]! <d[F+2*r+2]!)(h3:¬d[F+r]! <d[F+2*r+2]!):siftDown ltInt hi F r d=d:=by
 rw[siftDown,dif_neg (by omega),show F+(2*r+1)+1=F+2*r+2 by omega,show F+(2*r+2)=F+2*r+2 by omega,show F+(2*r+1)=F+2*r+1 by omega,if_pos (by simp[iZ,h2];omega),if_pos (by simp[iZ];omega)]
theorem aem(h1:2*r+2<hi)(h2:d[F+2*r+1]! <d[F+2*r+2]!)(h3:d[F+r]! <d[F+2*r+2]!):
 siftDown ltInt hi F (2*r+2) (swp d (F+r) (F+2*r+2))=siftDown ltInt hi F r d:=by
 conv=>rhs;rw[siftDown,dif_neg (by omega),show F+(2*r+1)+1=F+2*r+2 by omega,show F+(2*r+2)=F+2*r+2 by omega,show F+(2*r+1)=F+2*r+1 by omega,if_pos (by simp[iZ,h2];omega),if_neg (by simp[iZ];omega),dif_pos h1]
theorem Xj(h0:2*r+1<hi)(h1:2*r+2<hi->¬d[F+2*r+1]! <d[F+2*r+2]!)(h3:¬d[F+r]! <d[F+2*r+1]!):siftDown ltInt hi F r d=d:=by
 rw[siftDown,dif_neg (by omega),show F+(2*r+1)+1=F+2*r+2 by omega,show F+(2*r+2)=F+2*r+2 by omega,show F+(2*r+1)=F+2*r+1 by omega,if_neg (by simp[iZ];omega),if_pos (by simp[iZ];omega)]
theorem Xi(h0:2*r+1<hi)(h1:2*r+2<hi->¬d[F+2*r+1]! <d[F+2*r+2]!)(h3:d[F+r]! <d[F+2*r+1]!):
 siftDown ltInt hi F (2*r+1) (swp d (F+r) (F+2*r+1))=siftDown ltInt hi F r d:=by
 conv=>rhs;rw[siftDown,dif_neg (by omega),show F+(2*r+1)+1=F+2*r+2 by omega,show F+(2*r+2)=F+2*r+2 by omega,show F+(2*r+1)=F+2*r+1 by omega,if_neg (by simp[iZ];omega),if_neg (by simp[iZ];omega)]
theorem aeB(hi F:Nat):∀(k r:Nat) (d:Array Int),hi-r<=k->(siftDown ltInt hi F r d).size=d.size:=by
 intro k;induction k with
 |zero=>intro r d h;rw[Xh d (by omega)]
 |succ k ih=>
  intro r d h;by_cases h0:hi<=2*r+1
  ·rw[Xh d h0]
  ·by_cases h1:2*r+2<hi/\d[F+2*r+1]! <d[F+2*r+2]!
   ·by_cases h3:d[F+r]! <d[F+2*r+2]!
    ·rw[<-aem h1.1 h1.2 h3,ih _ _ (by omega),size_swp]
    ·rw[aen h1.1 h1.2 h3]
   ·have gO:2*r+2<hi->¬d[F+2*r+1]! <d[F+2*r+2]! :=(fun h hx=>h1 ⟨h,hx⟩);by_cases h3:d[F+r]! <d[F+2*r+1]!
    ·rw[<-Xi (by omega) gO h3,ih _ _ (by omega),size_swp]
    ·rw[Xj (by omega) gO h3]
theorem an2(hd:d.size=n)(hR:iD w g off sz d)(hf:first+hi<=n)(hn:n<1000000000)(mW:lo<=hi):
 Calls prog 175 #[.slice (some ⟨g,off,none⟩) n cap,.int .i64 (lo:Int),.int .i64 (hi:Int),.int .i64 (first:Int)] w fun e w'=>e=.returned (.tuple #[])/\cu w g off sz w' (siftDown ltInt hi first lo d):=by
 go_enter func175,ntmps175
 go_wp2_with fail
 go_loopw [8] (fun vr wr=>∃(r:Nat) (c:Array Int),vr=.int .i64 (r:Int)/\r<=hi/\Hid (c.size=n)/\Hid (siftDown ltInt hi first r c=siftDown ltInt hi first lo d)/\Hid (cu w g off sz wr c)) (fun vr _=>hi-(dM vr).toNat)
 case atStart=>exact⟨lo,d,rfl,mW,hd,rfl,cu.refl hR⟩
 case round=>
  obtain⟨r,c,rfl,hr,hc,HE,HW⟩:=hrel;clear hR hd;obtain⟨bj,bP⟩:=HW.o.row.iR;rw[hc.o]at bj bP;by_cases h0:hi<=2*r+1
  ·have h0z:(hi:Int)<=2*(r:Int)+1:=(by omega);go_wp2_with fail;go_end0;have e:c=siftDown ltInt hi first lo d:=by rw[<-HE.o];exact(Xh c h0).symm
   rw[<-e];exact⟨rfl,HW.o⟩
  ·have h0z:¬((hi:Int)<=2*(r:Int)+1):=(by omega);by_cases h1:2*r+2<hi
   ·have h1z:2*(r:Int)+1+1<(hi:Int):=(by omega);go_wp2_with fail;go_big_quiet (first|(go_at_call 155;refine Ar (jz _ _ _)));go_wp2_with fail
    ·revert nq;intro rU
     have d_:=bL (HW.o.drewN rU);have jI:∀t,t<n->(wr.drewN rU).cell? ⟨g,off+t,none⟩=some (.int .i32 c[t]!):=(bj);have jJ:∀t,t<n->(wr.drewN rU).frozen? ⟨g,off+t,none⟩=false:=bP
     clear bj bP HW;generalize wr.drewN rU=wr2 at jI jJ d_⊢;have bj:=jI;have bP:=jJ;clear jI jJ;go_big_quiet (first|(go_at_call 155;refine Ar (jz _ _ _)));go_wp2_with fail
     ·(try simp only[Exit.inBlock,Exit.then]);refine Bi (Dj rfl _ _ _) rfl ?_
      have e:c=siftDown ltInt hi first lo d:=by rw[<-HE.o];exact(aen h1 (by omega) (oJ (by assumption))).symm
      rw[<-e];exact⟨rfl,d_.o.drewN _⟩
     ·
      have ft:=bL (d_.o.drewN nq);have jI:∀t,t<n->(wr2.drewN nq).cell? ⟨g,off+t,none⟩=some (.int .i32 c[t]!):=(bj);have jJ:∀t,t<n->(wr2.drewN nq).frozen? ⟨g,off+t,none⟩=false:=bP
      clear bj bP d_;generalize wr2.drewN nq=J3 at jI jJ ft⊢;have bj:=jI;have bP:=jJ;clear jI jJ;go_region;go_wp2_with fail;go_roundw
      case rel=>exact⟨2*r+2,_,by simp<;>omega,by omega,(size_swp _ _ _).trans hc.o,(aem h1 (by omega) (oK (by assumption))).trans HE.o,(ft.o.drew).XB (by have:=hc.o;omega) (by have:=hc.o;omega) rfl (by omega)⟩
      case measure=>simp[dM];omega
    ·revert nq;intro rU
     have d_:=bL (HW.o.drewN rU);have jI:∀t,t<n->(wr.drewN rU).cell? ⟨g,off+t,none⟩=some (.int .i32 c[t]!):=(bj);have jJ:∀t,t<n->(wr.drewN rU).frozen? ⟨g,off+t,none⟩=false:=bP
     clear bj bP HW;generalize wr.drewN rU=wr2 at jI jJ d_⊢;have bj:=jI;have bP:=jJ;clear jI jJ;go_big_quiet (first|(go_at_call 155;refine Ar (jz _ _ _)));go_wp2_with fail
     ·(try simp only[Exit.inBlock,Exit.then]);refine Bi (Dj rfl _ _ _) rfl ?_
      have e:c=siftDown ltInt hi first lo d:=by rw[<-HE.o];exact(Xj (by omega) (fun _=>by omega) (oJ (by assumption))).symm
      rw[<-e];exact⟨rfl,d_.o.drewN _⟩
     ·
      have ft:=bL (d_.o.drewN nq);have jI:∀t,t<n->(wr2.drewN nq).cell? ⟨g,off+t,none⟩=some (.int .i32 c[t]!):=(bj);have jJ:∀t,t<n->(wr2.drewN nq).frozen? ⟨g,off+t,none⟩=false:=bP
      clear bj bP d_;generalize wr2.drewN nq=J3 at jI jJ ft⊢;have bj:=jI;have bP:=jJ;clear jI jJ;go_region;go_wp2_with fail;go_roundw
      case rel=>exact⟨2*r+1,_,by simp<;>omega,by omega,(size_swp _ _ _).trans hc.o,(Xi (by omega) (fun _=>by omega) (oK (by assumption))).trans HE.o,(ft.o.drew).XB (by have:=hc.o;omega) (by have:=hc.o;omega) rfl (by omega)⟩
      case measure=>simp[dM];omega
   ·have h1z:decide (2*(r:Int)+1+1<(hi:Int))=false:=by simp;omega
    go_wp2_with fail
    go_big_quiet (first|(go_at_call 155;refine Ar (jz _ _ _)))
    go_wp2_with fail
    revert nq;intro rU
    have d_:=bL (HW.o.drewN rU);have jI:∀t,t<n->(wr.drewN rU).cell? ⟨g,off+t,none⟩=some (.int .i32 c[t]!):=(bj);have jJ:∀t,t<n->(wr.drewN rU).frozen? ⟨g,off+t,none⟩=false:=bP
    clear bj bP HW;generalize wr.drewN rU=wr2 at jI jJ d_⊢;have bj:=jI;have bP:=jJ;clear jI jJ;go_big_quiet (first|(go_at_call 155;refine Ar (jz _ _ _)));go_wp2_with fail
    ·(try simp only[Exit.inBlock,Exit.then]);refine Bi (Dj rfl _ _ _) rfl ?_
     have e:c=siftDown ltInt hi first lo d:=by rw[<-HE.o];exact(Xj (by omega) (fun hq=>absurd hq h1) (oJ (by assumption))).symm
     rw[<-e];exact⟨rfl,d_.o.drewN _⟩
    ·
     have ft:=bL (d_.o.drewN nq);have jI:∀t,t<n->(wr2.drewN nq).cell? ⟨g,off+t,none⟩=some (.int .i32 c[t]!):=(bj);have jJ:∀t,t<n->(wr2.drewN nq).frozen? ⟨g,off+t,none⟩=false:=bP
     clear bj bP d_;generalize wr2.drewN nq=J3 at jI jJ ft⊢;have bj:=jI;have bP:=jJ;clear jI jJ;go_region;go_wp2_with fail;go_roundw
     case rel=>exact⟨2*r+1,_,by simp<;>omega,by omega,(size_swp _ _ _).trans hc.o,(Xi (by omega) (fun hq=>absurd hq h1) (oK (by assumption))).trans HE.o,(ft.o.drew).XB (by have:=hc.o;omega) (by have:=hc.o;omega) rfl (by omega)⟩
     case measure=>simp[dM];omega
theorem aeC{lo' hi' first':Int}(hd:d.size=n)(hR:iD w g off sz d)(h1:lo'=(lo:Int))(h2:hi'=(hi:Int))(h3:first'=(first:Int))(hf:first+hi<=n)(hn:n<1000000000)(mW:lo<=hi):
 Calls prog 175 #[.slice (some ⟨g,off,none⟩) n cap,.int .i64 lo',.int .i64 hi',.int .i64 first'] w fun e w'=>e=.returned (.tuple #[])/\cu w g off sz w' (siftDown ltInt hi first lo d):=by
 subst h1 h2 h3;exact an2 hd hR hf hn mW
theorem iD.oj(h:iD w g off sz d){t:Nat}(ht:t<d.size):(∃r,w.cell? ⟨g,off+t,none⟩=some (.int .i32 r))/\w.frozen? ⟨g,off+t,none⟩=false:=by
 obtain⟨h1,h2⟩:=h.iR;exact⟨⟨_,h1 t ht⟩,h2 t ht⟩
theorem Xv(h:scanUp p d j i=U)(cy:i<=j)(hp:p d[i]! =true):scanUp p d j (i+1)=U:=by
 rw[<-h];conv=>rhs;unfold scanUp
 rw[if_pos (by simp[cy,hp])]
theorem Xx(h:scanUp p d j i=U)(hp:¬p d[i]! =true):i=U:=by
 rw[<-h];unfold scanUp;rw[if_neg (by simp[hp])]
theorem Xw(h:scanUp p d j i=U)(cy:¬i<=j):i=U:=by
 rw[<-h];unfold scanUp;rw[if_neg (by simp[cy])]
theorem Xy(h:scanDown p d i j=U)(cy:i<=j)(h1:1<=j)(hp:p d[j]! =true):scanDown p d i (j-1)=U:=by
 obtain⟨k,rfl⟩:∃k,j=k+1:=⟨j-1,by omega⟩
 rw[<-h];conv=>rhs;unfold scanDown
 rw[if_pos (by simp[cy,hp])];rfl
theorem XA(h:scanDown p d i j=U)(hp:¬p d[j]! =true):j=U:=by
 rw[<-h]
 cases j with
 |zero=>rfl
 |succ k=>
  unfold scanDown;rw[if_neg (by simp[hp])]
theorem Xz(h:scanDown p d i j=U)(cy:¬i<=j):j=U:=by
 rw[<-h]
 cases j with
 |zero=>rfl
 |succ k=>
  unfold scanDown;rw[if_neg (by simp[cy])]
theorem amF{p:Nat}(h0:c0=swp d a p)(hi:i=scanUp (fun x=>ltInt x c0[a]!) c0 (b-1) (a+1))(hj:j=scanDown (fun x=>!ltInt x c0[a]!) c0 i (b-1))(cy:j<i):partition ltInt d a b p=(j,true,swp c0 j a):=by
 unfold partition;simp only[<-h0,<-hi,<-hj];rw[if_pos cy]
theorem amH{p:Nat}(h0:c0=swp d a p)(hi:i=scanUp (fun x=>ltInt x c0[a]!) c0 (b-1) (a+1))(hj:j=scanDown (fun x=>!ltInt x c0[a]!) c0 i (b-1))(cy:¬j<i)(hR:R=partLoop ltInt a (i+1) (j-1) (swp c0 i j)):partition ltInt d a b p=(R.1,false,swp R.2 R.1 a):=by
 unfold partition;simp only[<-h0,<-hi,<-hj];rw[if_neg cy,<-hR]
theorem am7(h:partLoop ltInt a i1 j1 c=R)(hi:i=scanUp (fun x=>ltInt x c[a]!) c j1 i1)(hj:j=scanDown (fun x=>!ltInt x c[a]!) c i j1)(cy:j<i):R=(j,c):=by
 rw[<-h,partLoop_eq,<-hi,<-hj,if_pos cy]
theorem am8(h:partLoop ltInt a i1 j1 c=R)(hi:i=scanUp (fun x=>ltInt x c[a]!) c j1 i1)(hj:j=scanDown (fun x=>!ltInt x c[a]!) c i j1)(cy:¬j<i):partLoop ltInt a (i+1) (j-1) (swp c i j)=R:=by
 rw[<-h];conv=>rhs;rw[partLoop_eq,<-hi,<-hj,if_neg cy]
theorem amP(h:partEqLoop ltInt a i1 j1 c=R)(hi:i=scanUp (fun x=>!ltInt c[a]! x) c j1 i1)(hj:j=scanDown (fun x=>ltInt c[a]! x) c i j1)(cy:j<i):R=(i,c):=by
 rw[<-h,partEqLoop_eq,<-hi,<-hj,if_pos cy]
theorem amQ(h:partEqLoop ltInt a i1 j1 c=R)(hi:i=scanUp (fun x=>!ltInt c[a]! x) c j1 i1)(hj:j=scanDown (fun x=>ltInt c[a]! x) c i j1)(cy:¬j<i):partEqLoop ltInt a (i+1) (j-1) (swp c i j)=R:=by
 rw[<-h];conv=>rhs;rw[partEqLoop_eq,<-hi,<-hj,if_neg cy]
def afD(w:World)(g off sz a b p:Nat)(d:Array Int)(m:Nat)(t:Bool)(w':World):Prop:=(a<=m/\m<b)/\∃c,partition ltInt d a b p=(m,t,c)/\cu w g off sz w' c
def afE(w:World)(g off sz a b p:Nat)(d:Array Int)(m:Nat)(w':World):Prop:=(a<m/\m<=b)/\∃c,partitionEqual ltInt d a b p=(m,c)/\cu w g off sz w' c
theorem aiS(hd:d.size=n)(hR:iD w g off sz d)(lr:a<b)(hb:b<=n)(hn:n<1000000000):
 Calls prog 150 #[.slice (some ⟨g,off,none⟩) n cap,.int .i64 (a:Int),.int .i64 (b:Int)] w fun e w'=>e=.returned (.tuple #[])/\cu w g off sz w' (heapSort ltInt d a b):=by
 obtain⟨D1,Um⟩:∃D1,D1=heapBuild ltInt (b-a) a ((b-a-1) /2+1) d:=⟨_,rfl⟩
 have abg:heapPop ltInt a (b-a) D1=heapSort ltInt d a b:=by rw[Um];rfl
 have Ic:=bL Um;have Sy:=bL abg;clear Um abg;generalize heapSort ltInt d a b=DF at Sy⊢;go_enter func150,ntmps150;go_wp2_with fail;go_loopw [9] (fun vi wr=>∃(i:Nat) (c:Array Int),vi=.int .i64 ((i:Int)-1)/\i<=b-a/\Hid (c.size=n)/\Hid (heapBuild ltInt (b-a) a i c=D1)/\Hid (cu w g off sz wr c)) (fun vi _=>(dM vi+1).toNat)
 case atStart=>exact⟨(b-a-1) /2+1,d,by congr 1;omega,by omega,hd,Ic.o.symm,cu.refl hR⟩
 case round=>
  obtain⟨i,c,rfl,oy,hc,HE,HW⟩:=hrel;clear hR hd Ic
  cases i with
  |succ i=>
   have hz:(0:Int)<=((i+1:Nat):Int)-1:=(by omega);have PV:((i+1:Nat):Int)-1=(i:Int):=(by omega);have F:=bL (aeC (cap:=cap) (lo:=i) (hi:=b-a) (first:=a) (lo':=(i:Int)) (hi':=(b:Int)-(a:Int)) (first':=(a:Int)) hc.o HW.o.row rfl (by omega) rfl (by omega) hn (by omega));go_wp2_with fail;refine(F.o).mono ?_;rintro e w1 ⟨rfl,P1⟩;have oR:=bL (HW.o.trans P1);clear P1 F HW;go_wp2_with fail;go_roundw
   case rel=>exact⟨i,_,by congr 1,by omega,(aeB _ _ _ _ _ (Ab _)).trans hc.o,HE,oR⟩
   case measure=>simp[dM]<;>omega
  |zero=>
   have hz:¬((0:Int)<=((0:Nat):Int)-1):=(by omega);go_wp2_with fail;go_loopw [10] (fun vi wr=>∃(i:Nat) (c2:Array Int),vi=.int .i64 ((i:Int)-1)/\i<=b-a/\Hid (c2.size=n)/\Hid (heapPop ltInt a i c2=DF)/\Hid (cu w g off sz wr c2)) (fun vi _=>(dM vi+1).toNat)
   case atStart=>exact⟨b-a,c,by congr 1;omega,by omega,hc,by have e:c=D1:=HE.o;rw[e];exact Sy,HW⟩
   case round=>
    obtain⟨i,c2,rfl,lu,ji,jd,d_⟩:=hrel;clear HW Sy HE hc
    cases i with
    |succ i=>
     have hz:(0:Int)<=((i+1:Nat):Int)-1:=(by omega);have PV:((i+1:Nat):Int)-1=(i:Int):=(by omega);go_wp2_with fail;obtain⟨bj,bP⟩:=d_.o.row.iR;rw[ji.o]at bj bP;have gg:=ji.o;obtain⟨⟨q0,q1⟩,q2⟩:=(d_.o.put (show a<c2.size by omega) c2[a+i]!).row.oj (show a+i<_ by simp;omega);go_region;have ft:=bL ((d_.o.drew).swap (show a<c2.size by omega) (show a+i<c2.size by omega));have F:=bL (aeC (cap:=cap) (lo:=0) (hi:=i) (first:=a) (lo':=0) (hi':=(i:Int)) (first':=(a:Int)) ((size_swp _ _ _).trans gg) ft.o.row rfl rfl rfl (by omega) hn (by omega));clear d_ bj bP q1 q2 gg;go_wp2_with fail;refine(F.o).mono ?_;rintro e w1 ⟨rfl,P1⟩;have oS:=bL (ft.o.trans P1);clear P1 F ft;go_wp2_with fail;go_roundw
     case rel=>exact⟨i,_,by congr 1,by omega,((aeB _ _ _ _ _ (Ab _)).trans (size_swp _ _ _)).trans ji.o,jd,oS⟩
     case measure=>simp[dM]<;>omega
    |zero=>
     have hz:¬((0:Int)<=((0:Nat):Int)-1):=(by omega);go_wp2_with fail;go_end0;have e:c2=DF:=jd.o;rw[<-e];exact⟨rfl,d_.o⟩
theorem amG{p:Nat}(hd:d.size=n)(hR:iD w g off sz d)(lr:a+2<=b)(hb:b<=n)(hn:n<1000000000)(hp:a<=p/\p<b):
 Calls prog 157 #[.slice (some ⟨g,off,none⟩) n cap,.int .i64 (a:Int),.int .i64 (b:Int),.int .i64 (p:Int)] w fun e w'=>∃(m:Nat) (t:Bool),e=.returned (.tuple #[.int .i64 (m:Int),.bool t])/\afD w g off sz a b p d m t w':=by
 have lG:=bL (cu.refl hR);clear hR;go_enter func157,ntmps157;obtain⟨bj,bP⟩:=lG.o.row.iR;rw[hd]at bj bP;obtain⟨⟨q0,q1⟩,q2⟩:=(lG.o.put (show a<d.size by omega) d[p]!).row.oj (show p<_ by simp;omega);go_wp2_with fail;go_region;have HW:=bL ((lG.o.drew).swap (show a<d.size by omega) (show p<d.size by omega));obtain⟨c0,nH⟩:∃c0,c0=swp d a p:=⟨_,rfl⟩
 rw[<-nH]at HW;have jl:Hid (c0.size=n):=by rw[nH];exact(size_swp _ _ _).trans hd
 have Ia:=bL nH;obtain⟨U,hU⟩:∃U,U=scanUp (fun x=>ltInt x c0[a]!) c0 (b-1) (a+1):=⟨_,rfl⟩
 have HU:=bL hU;clear bj bP q1 q2 lG nH hU hd;go_upto_block 0 with fail
 go_cut [10] (fun sx wx=>∃i:Nat,sx=.int .i64 (i:Int)/\a+1<=i/\i<=b/\Hid (i=U)/\Hid (cu w g off sz wx c0))
 case first=>
  go_wp2_with fail
  go_loopw [10] (fun vi wr=>∃i:Nat,vi=.int .i64 (i:Int)/\(a+1)<=i/\i<=b/\Hid (scanUp (fun x=>ltInt x c0[a]!) c0 (b-1) i=U)/\Hid (cu w g off sz wr c0)) (fun vi _=>b-(dM vi).toNat)
  case atStart=>exact⟨(a+1),by go_num,Ab _,by omega,HU.o.symm,HW⟩
  case round=>
   obtain⟨i,rfl,cU,gg,HS,dV⟩:=hrel;clear HW;obtain⟨bj,bP⟩:=dV.o.row.iR;rw[jl.o]at bj bP;by_cases hc:i+1<=b
   ·have hz:(i:Int)<=(b:Int)-1:=(by omega);go_wp2_with fail;go_big_quiet (first|(go_at_call 155;refine Ar (jz _ _ _)));go_wp2_with fail
    ·go_roundw
     case rel=>exact⟨i+1,by go_num,by omega,by omega,Xv HS.o (by omega) (by simp only[iZ,Az,Cb,A7];first|omega|exact oJ (by assumption)|exact oK (by assumption)),dV.o.drewN _⟩
     case measure=>simp[dM]<;>omega
    ·go_meet
     case rel=>exact⟨i,rfl,by omega,by omega,Xx HS.o (fun hq=>by simp only[iZ,Az,Cb,A7]at hq;first|omega|exact hq (oK (by assumption))|exact oJ (by assumption) hq),dV.o.drewN _⟩
   ·have hz:decide ((i:Int)<=(b:Int)-1)=false:=Bh (by omega);go_wp2_with fail;go_big_quiet (first|(go_at_call 155;refine Ar (jz _ _ _)));go_wp2_with fail;go_meet
    case rel=>exact⟨i,rfl,by omega,by omega,Xw HS.o (by omega),dV.o.drewN _⟩
 case rest=>
  obtain⟨i,rfl,oy,lu,tZ,d_⟩:=hcut;clear HW;obtain⟨V,hV⟩:∃V,V=scanDown (fun x=>!ltInt x c0[a]!) c0 i (b-1):=⟨_,rfl⟩
  have HV:=bL hV;clear hV;go_upto_block 2 with fail
  go_cut [11] (fun sx wx=>∃j:Nat,sx=.int .i64 (j:Int)/\j<=(b-1)/\i<=j+2/\a<=j/\Hid (j=V)/\Hid (cu w g off sz wx c0))
  case first=>
   go_wp2_with fail
   go_loopw [11] (fun vj wr=>∃j:Nat,vj=.int .i64 (j:Int)/\j<=(b-1)/\i<=j+2/\a<=j/\Hid (scanDown (fun x=>!ltInt x c0[a]!) c0 i j=V)/\Hid (cu w g off sz wr c0)) (fun vj _=>(dM vj).toNat)
   case atStart=>exact⟨(b-1),by congr 1;omega,Ab _,by omega,by omega,HV.o.symm,d_⟩
   case round=>
    obtain⟨j,rfl,cU,gg,rL,HS,dV⟩:=hrel;clear d_;obtain⟨bj,bP⟩:=dV.o.row.iR;rw[jl.o]at bj bP;by_cases hc:i<=j
    ·have hz:(i:Int)<=(j:Int):=(by omega);go_wp2_with fail;go_big_quiet (first|(go_at_call 155;refine Ar (jz _ _ _)));go_wp2_with fail
     ·go_roundw
      case rel=>exact⟨j-1,by congr 1;omega,by omega,by omega,by omega,Xy HS.o (by omega) (by omega) (by simp only[iZ,Az,Cb,A7];first|omega|exact oJ (by assumption)|exact oK (by assumption)),dV.o.drewN _⟩
      case measure=>simp[dM]<;>omega
     ·go_meet
      case rel=>exact⟨j,rfl,by omega,by omega,by omega,XA HS.o (fun hq=>by simp only[iZ,Az,Cb,A7]at hq;first|omega|exact hq (oK (by assumption))|exact oJ (by assumption) hq),dV.o.drewN _⟩
    ·have hz:decide ((i:Int)<=(j:Int))=false:=Bh (by omega);go_wp2_with fail;go_big_quiet (first|(go_at_call 155;refine Ar (jz _ _ _)));go_wp2_with fail;go_meet
     case rel=>exact⟨j,rfl,by omega,by omega,by omega,Xz HS.o (by omega),dV.o.drewN _⟩
  case rest=>
   obtain⟨j,rfl,rG,lN,I_,yw,ft⟩:=hcut;clear d_;have aP:=jl.o;by_cases cy:j<i
   ·have hz:(j:Int)<(i:Int):=(by omega);obtain⟨bj,bP⟩:=ft.o.row.iR;rw[aP]at bj bP;obtain⟨⟨q0,q1⟩,q2⟩:=(ft.o.put (show j<c0.size by omega) c0[a]!).row.oj (show a<_ by simp;omega);have ax:Hid (partition ltInt d a b p=(j,true,swp c0 j a)):=amF Ia.o (tZ.o.trans HU.o) (yw.o.trans HV.o) cy;go_wp2_with fail;go_region;have oS:=bL ((ft.o.drew).swap (show j<c0.size by omega) (show a<c0.size by omega));clear bj bP q1 q2 ft;go_wp2_with fail;go_ret2;exact⟨j,true,rfl,by omega,_,ax.o,oS.o⟩
   ·have hz:¬((j:Int)<(i:Int)):=(by omega);obtain⟨bj,bP⟩:=ft.o.row.iR;rw[aP]at bj bP;obtain⟨⟨q0,q1⟩,q2⟩:=(ft.o.put (show i<c0.size by omega) c0[j]!).row.oj (show j<_ by simp;omega);obtain⟨R,vo⟩:∃R,R=partLoop ltInt a (i+1) (j-1) (swp c0 i j):=⟨_,rfl⟩
    have ax:Hid (partition ltInt d a b p=(R.1,false,swp R.2 R.1 a)):=amH Ia.o (tZ.o.trans HU.o) (yw.o.trans HV.o) cy vo;have kL:=bL vo;clear vo;go_wp2_with fail;go_region;have oS:=bL ((ft.o.drew).swap (show i<c0.size by omega) (show j<c0.size by omega));have rM:Hid ((swp c0 i j).size=n):=(size_swp _ _ _).trans aP;clear bj bP q1 q2 ft;go_wp2_with fail;go_loopw [10,11] (fun vi vj wr=>∃(i j:Nat) (c:Array Int),vi=.int .i64 (i:Int)/\vj=.int .i64 (j:Int)/\a+1<=i/\i<=b/\a<=j/\j<b/\i<=j+2/\Hid (c.size=n)/\Hid (partLoop ltInt a i j c=R)/\Hid (cu w g off sz wr c)) (fun vi vj _=>(dM vj+2-dM vi).toNat)
    case atStart=>exact⟨i+1,j-1,_,by go_num,by congr 1;omega,by omega,by omega,by omega,by omega,by omega,rM,kL.o.symm,oS⟩
    case round=>
     clear oS cy hz rG lN I_ oy lu jl aP Ia HU HV tZ yw kL rM;obtain⟨i1,j1,c,rfl,rfl,oy,lu,rG,lN,ai8,jl,kL,HW⟩:=hrel;obtain⟨U2,hU⟩:∃U2,U2=scanUp (fun x=>ltInt x c[a]!) c j1 i1:=⟨_,rfl⟩
     have HU:=bL hU;clear hU;go_upto_block 6 with fail
     go_cut [10] (fun sx wx=>∃i:Nat,sx=.int .i64 (i:Int)/\i1<=i/\i<=b/\i<=j1+2/\Hid (i=U2)/\Hid (cu w g off sz wx c))
     case first=>
      go_wp2_with fail
      go_loopw [10] (fun vi wr=>∃i:Nat,vi=.int .i64 (i:Int)/\i1<=i/\i<=b/\i<=j1+2/\Hid (scanUp (fun x=>ltInt x c[a]!) c j1 i=U2)/\Hid (cu w g off sz wr c)) (fun vi _=>b-(dM vi).toNat)
      case atStart=>exact⟨i1,rfl,Ab _,by omega,by omega,HU.o.symm,HW⟩
      case round=>
       obtain⟨i,rfl,cU,gg,rL,HS,dV⟩:=hrel;clear HW;obtain⟨bj,bP⟩:=dV.o.row.iR;rw[jl.o]at bj bP;by_cases hc:i<=j1
       ·have hz:(i:Int)<=(j1:Int):=(by omega);go_wp2_with fail;go_big_quiet (first|(go_at_call 155;refine Ar (jz _ _ _)));go_wp2_with fail
        ·go_roundw
         case rel=>exact⟨i+1,by go_num,by omega,by omega,by omega,Xv HS.o (by omega) (by simp only[iZ,Az,Cb,A7];first|omega|exact oJ (by assumption)|exact oK (by assumption)),dV.o.drewN _⟩
         case measure=>simp[dM]<;>omega
        ·go_meet
         case rel=>exact⟨i,rfl,by omega,by omega,by omega,Xx HS.o (fun hq=>by simp only[iZ,Az,Cb,A7]at hq;first|omega|exact hq (oK (by assumption))|exact oJ (by assumption) hq),dV.o.drewN _⟩
       ·have hz:decide ((i:Int)<=(j1:Int))=false:=Bh (by omega);go_wp2_with fail;go_big_quiet (first|(go_at_call 155;refine Ar (jz _ _ _)));go_wp2_with fail;go_meet
        case rel=>exact⟨i,rfl,by omega,by omega,by omega,Xw HS.o (by omega),dV.o.drewN _⟩
     case rest=>
      obtain⟨i,rfl,Qa,hi4,hi5,tZ,d_⟩:=hcut;clear HW;obtain⟨V2,hV⟩:∃V2,V2=scanDown (fun x=>!ltInt x c[a]!) c i j1:=⟨_,rfl⟩
      have HV:=bL hV;clear hV;go_upto_block 8 with fail
      go_cut [11] (fun sx wx=>∃j:Nat,sx=.int .i64 (j:Int)/\j<=j1/\i<=j+2/\a<=j/\Hid (j=V2)/\Hid (cu w g off sz wx c))
      case first=>
       go_wp2_with fail
       go_loopw [11] (fun vj wr=>∃j:Nat,vj=.int .i64 (j:Int)/\j<=j1/\i<=j+2/\a<=j/\Hid (scanDown (fun x=>!ltInt x c[a]!) c i j=V2)/\Hid (cu w g off sz wr c)) (fun vj _=>(dM vj).toNat)
       case atStart=>exact⟨j1,rfl,Ab _,by omega,by omega,HV.o.symm,d_⟩
       case round=>
        obtain⟨j,rfl,cU,gg,rL,HS,dV⟩:=hrel;clear d_;obtain⟨bj,bP⟩:=dV.o.row.iR;rw[jl.o]at bj bP;by_cases hc:i<=j
        ·have hz:(i:Int)<=(j:Int):=(by omega);go_wp2_with fail;go_big_quiet (first|(go_at_call 155;refine Ar (jz _ _ _)));go_wp2_with fail
         ·go_roundw
          case rel=>exact⟨j-1,by congr 1;omega,by omega,by omega,by omega,Xy HS.o (by omega) (by omega) (by simp only[iZ,Az,Cb,A7];first|omega|exact oJ (by assumption)|exact oK (by assumption)),dV.o.drewN _⟩
          case measure=>simp[dM]<;>omega
         ·go_meet
          case rel=>exact⟨j,rfl,by omega,by omega,by omega,XA HS.o (fun hq=>by simp only[iZ,Az,Cb,A7]at hq;first|omega|exact hq (oK (by assumption))|exact oJ (by assumption) hq),dV.o.drewN _⟩
        ·have hz:decide ((i:Int)<=(j:Int))=false:=Bh (by omega);go_wp2_with fail;go_big_quiet (first|(go_at_call 155;refine Ar (jz _ _ _)));go_wp2_with fail;go_meet
         case rel=>exact⟨j,rfl,by omega,by omega,by omega,Xz HS.o (by omega),dV.o.drewN _⟩
      case rest=>
       obtain⟨j,rfl,I_,Qc,Qd,yw,ft⟩:=hcut;clear d_;have aP:=jl.o;by_cases cy:j<i
       ·have hz:(j:Int)<(i:Int):=(by omega);obtain⟨bj,bP⟩:=ft.o.row.iR;rw[aP]at bj bP;obtain⟨⟨q0,q1⟩,q2⟩:=(ft.o.put (show j<c.size by omega) c[a]!).row.oj (show a<_ by simp;omega);have E:=am7 kL.o (tZ.o.trans HU.o) (yw.o.trans HV.o) cy;rw[E]at ax;go_wp2_with fail;go_region;have oS:=bL ((ft.o.drew).swap (show j<c.size by omega) (show a<c.size by omega));clear bj bP q1 q2 ft;go_wp2_with fail;go_ret2;exact⟨j,false,rfl,by omega,_,ax.o,oS.o⟩
       ·have hz:¬((j:Int)<(i:Int)):=(by omega);obtain⟨bj,bP⟩:=ft.o.row.iR;rw[aP]at bj bP;obtain⟨⟨q0,q1⟩,q2⟩:=(ft.o.put (show i<c.size by omega) c[j]!).row.oj (show j<_ by simp;omega);have E:=bL (am8 kL.o (tZ.o.trans HU.o) (yw.o.trans HV.o) cy);go_wp2_with fail;go_region;have oS:=bL ((ft.o.drew).swap (show i<c.size by omega) (show j<c.size by omega));have rM:Hid ((swp c i j).size=n):=(size_swp _ _ _).trans aP;clear bj bP q1 q2 ft;go_wp2_with fail;go_roundw
        case rel=>exact⟨i+1,j-1,_,by go_num,by congr 1;omega,by omega,by omega,by omega,by omega,by omega,rM,E,oS⟩
        case measure=>simp[dM]<;>omega
theorem amR{p:Nat}(hd:d.size=n)(hR:iD w g off sz d)(lr:a+2<=b)(hb:b<=n)(hn:n<1000000000)(hp:a<=p/\p<b):
 Calls prog 156 #[.slice (some ⟨g,off,none⟩) n cap,.int .i64 (a:Int),.int .i64 (b:Int),.int .i64 (p:Int)] w fun e w'=>∃m:Nat,e=.returned (.int .i64 (m:Int))/\afE w g off sz a b p d m w':=by
 have lG:=bL (cu.refl hR);clear hR;go_enter func156,ntmps156;obtain⟨bj,bP⟩:=lG.o.row.iR;rw[hd]at bj bP;obtain⟨⟨q0,q1⟩,q2⟩:=(lG.o.put (show a<d.size by omega) d[p]!).row.oj (show p<_ by simp;omega);obtain⟨R,vo⟩:∃R,R=partEqLoop ltInt a (a+1) (b-1) (swp d a p):=⟨_,rfl⟩
 have ax:Hid (partitionEqual ltInt d a b p=R):=vo.symm;have kL:=bL vo;clear vo;go_wp2_with fail;go_region;have HW:=bL ((lG.o.drew).swap (show a<d.size by omega) (show p<d.size by omega));have rM:Hid ((swp d a p).size=n):=(size_swp _ _ _).trans hd;clear bj bP q1 q2 lG hd;go_wp2_with fail;go_loopw [9,10] (fun vi vj wr=>∃(i j:Nat) (c:Array Int),vi=.int .i64 (i:Int)/\vj=.int .i64 (j:Int)/\a+1<=i/\i<=b/\a<=j/\j<b/\i<=j+2/\Hid (c.size=n)/\Hid (partEqLoop ltInt a i j c=R)/\Hid (cu w g off sz wr c)) (fun vi vj _=>(dM vj+2-dM vi).toNat)
 case atStart=>exact⟨a+1,b-1,_,by go_num,by congr 1;omega,by omega,by omega,by omega,by omega,by omega,rM,kL.o.symm,HW⟩
 case round=>
  clear HW kL rM;obtain⟨i1,j1,c,rfl,rfl,oy,lu,rG,lN,ai8,jl,kL,HW⟩:=hrel;obtain⟨U2,hU⟩:∃U2,U2=scanUp (fun x=>!ltInt c[a]! x) c j1 i1:=⟨_,rfl⟩
  have HU:=bL hU;clear hU;go_upto_block 2 with fail
  go_cut [9] (fun sx wx=>∃i:Nat,sx=.int .i64 (i:Int)/\i1<=i/\i<=b/\i<=j1+2/\Hid (i=U2)/\Hid (cu w g off sz wx c))
  case first=>
   go_wp2_with fail
   go_loopw [9] (fun vi wr=>∃i:Nat,vi=.int .i64 (i:Int)/\i1<=i/\i<=b/\i<=j1+2/\Hid (scanUp (fun x=>!ltInt c[a]! x) c j1 i=U2)/\Hid (cu w g off sz wr c)) (fun vi _=>b-(dM vi).toNat)
   case atStart=>exact⟨i1,rfl,Ab _,by omega,by omega,HU.o.symm,HW⟩
   case round=>
    obtain⟨i,rfl,cU,gg,rL,HS,dV⟩:=hrel;clear HW;obtain⟨bj,bP⟩:=dV.o.row.iR;rw[jl.o]at bj bP;by_cases hc:i<=j1
    ·have hz:(i:Int)<=(j1:Int):=(by omega);go_wp2_with fail;go_big_quiet (first|(go_at_call 155;refine Ar (jz _ _ _)));go_wp2_with fail
     ·go_roundw
      case rel=>exact⟨i+1,by go_num,by omega,by omega,by omega,Xv HS.o (by omega) (by simp only[iZ,Az,Cb,A7];first|omega|exact oJ (by assumption)|exact oK (by assumption)),dV.o.drewN _⟩
      case measure=>simp[dM]<;>omega
     ·go_meet
      case rel=>exact⟨i,rfl,by omega,by omega,by omega,Xx HS.o (fun hq=>by simp only[iZ,Az,Cb,A7]at hq;first|omega|exact hq (oK (by assumption))|exact oJ (by assumption) hq),dV.o.drewN _⟩
    ·have hz:decide ((i:Int)<=(j1:Int))=false:=Bh (by omega);go_wp2_with fail;go_big_quiet (first|(go_at_call 155;refine Ar (jz _ _ _)));go_wp2_with fail;go_meet
     case rel=>exact⟨i,rfl,by omega,by omega,by omega,Xw HS.o (by omega),dV.o.drewN _⟩
  case rest=>
   obtain⟨i,rfl,Qa,hi4,hi5,tZ,d_⟩:=hcut;clear HW;obtain⟨V2,hV⟩:∃V2,V2=scanDown (fun x=>ltInt c[a]! x) c i j1:=⟨_,rfl⟩
   have HV:=bL hV;clear hV;go_upto_block 4 with fail
   go_cut [10] (fun sx wx=>∃j:Nat,sx=.int .i64 (j:Int)/\j<=j1/\i<=j+2/\a<=j/\Hid (j=V2)/\Hid (cu w g off sz wx c))
   case first=>
    go_wp2_with fail
    go_loopw [10] (fun vj wr=>∃j:Nat,vj=.int .i64 (j:Int)/\j<=j1/\i<=j+2/\a<=j/\Hid (scanDown (fun x=>ltInt c[a]! x) c i j=V2)/\Hid (cu w g off sz wr c)) (fun vj _=>(dM vj).toNat)
    case atStart=>exact⟨j1,rfl,Ab _,by omega,by omega,HV.o.symm,d_⟩
    case round=>
     obtain⟨j,rfl,cU,gg,rL,HS,dV⟩:=hrel;clear d_;obtain⟨bj,bP⟩:=dV.o.row.iR;rw[jl.o]at bj bP;by_cases hc:i<=j
     ·have hz:(i:Int)<=(j:Int):=(by omega);go_wp2_with fail;go_big_quiet (first|(go_at_call 155;refine Ar (jz _ _ _)));go_wp2_with fail
      ·go_roundw
       case rel=>exact⟨j-1,by congr 1;omega,by omega,by omega,by omega,Xy HS.o (by omega) (by omega) (by simp only[iZ,Az,Cb,A7];first|omega|exact oJ (by assumption)|exact oK (by assumption)),dV.o.drewN _⟩
       case measure=>simp[dM]<;>omega
      ·go_meet
       case rel=>exact⟨j,rfl,by omega,by omega,by omega,XA HS.o (fun hq=>by simp only[iZ,Az,Cb,A7]at hq;first|omega|exact hq (oK (by assumption))|exact oJ (by assumption) hq),dV.o.drewN _⟩
     ·have hz:decide ((i:Int)<=(j:Int))=false:=Bh (by omega);go_wp2_with fail;go_big_quiet (first|(go_at_call 155;refine Ar (jz _ _ _)));go_wp2_with fail;go_meet
      case rel=>exact⟨j,rfl,by omega,by omega,by omega,Xz HS.o (by omega),dV.o.drewN _⟩
   case rest=>
    obtain⟨j,rfl,I_,Qc,Qd,yw,ft⟩:=hcut;clear d_;have aP:=jl.o;by_cases cy:j<i
    ·have hz:(j:Int)<(i:Int):=(by omega);have E:=amP kL.o (tZ.o.trans HU.o) (yw.o.trans HV.o) cy;rw[E]at ax;go_wp2_with fail;go_ret;exact⟨i,rfl,by omega,_,ax.o,ft.o⟩
    ·have hz:¬((j:Int)<(i:Int)):=(by omega);obtain⟨bj,bP⟩:=ft.o.row.iR;rw[aP]at bj bP;obtain⟨⟨q0,q1⟩,q2⟩:=(ft.o.put (show i<c.size by omega) c[j]!).row.oj (show j<_ by simp;omega);have E:=bL (amQ kL.o (tZ.o.trans HU.o) (yw.o.trans HV.o) cy);go_wp2_with fail;go_region;have oS:=bL ((ft.o.drew).swap (show i<c.size by omega) (show j<c.size by omega));have rM:Hid ((swp c i j).size=n):=(size_swp _ _ _).trans aP;clear bj bP q1 q2 ft;go_wp2_with fail;go_roundw
     case rel=>exact⟨i+1,j-1,_,by go_num,by congr 1;omega,by omega,by omega,by omega,by omega,by omega,rM,E,oS⟩
     case measure=>simp[dM]<;>omega
