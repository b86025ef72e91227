/- The library's sort of runes, what it makes of a row -/
import Derived.Test.YtpdnofhackjfdaaGreatDoorP36
set_option linter.all false
set_option maxRecDepth 100000
set_option maxHeartbeats 8000000
namespace Go.Proofs.YtpdnofhackjfdaaGreatDoor
open Go.Proofs.Tryz
open Go.RowKit Go.Lib Go.Sort
variable {c c' d:Array Int} {R:Array Int×Bool} {U a a1 b b1 cap g i i1 j j1 k m n off p sz:Nat} {w w1:World}
def Zq(w:World)(g off sz a b:Nat)(d:Array Int):Ending->World->Prop:=fun e w'=>∃(t:Bool) (c:Array Int),e=.returned (.bool t)/\partialInsertionSort ltInt d a b=(c,t)/\cd w g off sz w' c
theorem anR(h:scanSorted ltInt d b i=U)(dN:i<b)(hp:¬d[i]! <d[i-1]!):scanSorted ltInt d b (i+1)=U:=by
 rw[<-h];conv=>rhs;unfold scanSorted
 rw[if_pos (by simp[iV,dN];omega)]
theorem anT(h:scanSorted ltInt d b i=U)(hp:d[i]! <d[i-1]!):i=U:=by
 rw[<-h];unfold scanSorted;rw[if_neg (by simp[iV,hp])]
theorem anS(h:scanSorted ltInt d b i=U)(dN:¬i<b):i=U:=by
 rw[<-h];unfold scanSorted;rw[if_neg (by simp[dN])]
theorem anF(h:shiftDown ltInt j d=c)(hj:1<=j)(hp:d[j]! <d[j-1]!):shiftDown ltInt (j-1) (swp d j (j-1))=c:=by
 obtain⟨k,rfl⟩:∃k,j=k+1:=⟨j-1,by omega⟩
 rw[<-h];conv=>rhs;unfold shiftDown
 rw[Ct]at hp⊢;rw[if_neg (by simp[iV,hp])]
theorem anH(h:shiftDown ltInt j d=c)(hp:¬d[j]! <d[j-1]!):d=c:=by
 rw[<-h]
 cases j with
 |zero=>rfl
 |succ k=>
  rw[Ct]at hp;unfold shiftDown;rw[if_pos (by simp[iV];omega)]
theorem anG(h:shiftDown ltInt j d=c)(hj:j=0):d=c:=by
 subst hj;exact h
theorem aor(h:shiftUp ltInt b j d=c)(hj:j<b)(hp:d[j]! <d[j-1]!):shiftUp ltInt b (j+1) (swp d j (j-1))=c:=by
 rw[<-h];conv=>rhs;unfold shiftUp
 rw[if_pos hj,if_neg (by simp[iV,hp])]
theorem aot(h:shiftUp ltInt b j d=c)(hp:¬d[j]! <d[j-1]!):d=c:=by
 rw[<-h];unfold shiftUp;split
 ·rw[if_pos (by simp[iV];omega)]
 ·rfl
theorem aos(h:shiftUp ltInt b j d=c)(hj:¬j<b):d=c:=by
 rw[<-h];unfold shiftUp;rw[if_neg hj]
theorem amt(h:partialIns ltInt a b (5-j1) i1 c=R)(hj:¬j1<5):(c,false)=R:=by
 rw[<-h,show 5-j1=0 by omega];rfl
theorem ams(h:partialIns ltInt a b (5-j1) i1 c=R)(hj:j1<5)(hi:i=scanSorted ltInt c b i1):
 (i=b->(c,true)=R)/\(¬i=b->b-a<50->(c,false)=R)/\(¬i=b->¬b-a<50->partialIns ltInt a b (5-(j1+1)) i (fixUp ltInt b i (fixDown ltInt a i (swp c i (i-1))))=R):=by
 obtain⟨k,hk⟩:∃k,5-j1=k+1:=⟨5-j1-1,by omega⟩
 rw[hk,partialIns_succ,<-hi]at h;rw[show 5-(j1+1)=k by omega];refine⟨fun e=>?_,fun e e2=>?_,fun e e2=>?_⟩
 ·rw[if_pos e]at h;exact h
 ·rw[if_neg e,if_pos e2]at h;exact h
 ·rw[if_neg e,if_neg e2]at h;exact h
theorem amB(hd:d.size=n)(hR:iI w g off sz d)(lq:a+2<=b)(hb:b<=n)(hn:n<1000000000):
 Calls prog 154 #[.slice (some ⟨g,off,none⟩) n cap,.int .i64 (a:Int),.int .i64 (b:Int)] w (Zq w g off sz a b d):=by
 obtain⟨R,vo⟩:∃R,R=partialInsertionSort ltInt d a b:=⟨_,rfl⟩
 have ax:Hid (∀(t:Bool) (c:Array Int) (w1:World),(c,t)=R->cd w g off sz w1 c->Zq w g off sz a b d (.returned (.bool t)) w1):=fun t c w1 h1 h2=>⟨t,c,rfl,by rw[h1,vo],h2⟩
 have kF:Hid (partialIns ltInt a b 5 (a+1) d=R):=vo.symm;clear vo;have lG:=bI (cd.refl hR);clear hR;go_enter func154,ntmps154;go_wp2_with fail;go_loopw [7,8] (fun vi vj wr=>∃(i1 j1:Nat) (c:Array Int),vi=.int .i64 (i1:Int)/\vj=.int .i64 (j1:Int)/\a+1<=i1/\i1<=b/\j1<=5/\Hid (c.size=n)/\Hid (partialIns ltInt a b (5-j1) i1 c=R)/\Hid (cd w g off sz wr c)) (fun _ vj _=>5-(dJ vj).toNat)
 case atStart=>exact⟨a+1,0,d,by go_num,rfl,by omega,by omega,by omega,hd,kF,lG⟩
 case round=>
  clear lG hd kF;obtain⟨i1,j1,c,rfl,rfl,og,lr,rG,jj,kF,HW⟩:=hrel;obtain⟨U,hU⟩:∃U,U=scanSorted ltInt c b i1:=⟨_,rfl⟩
  have HU:=bI hU;clear hU;by_cases PQ:j1<5
  ·have hz5:(j1:Int)<5:=(by omega);go_upto_block 2 with fail
   go_cut [7] (fun sx wx=>∃i:Nat,sx=.int .i64 (i:Int)/\i1<=i/\i<=b/\Hid (i=U)/\Hid (cd w g off sz wx c))
   case first=>
    go_wp2_with fail
    go_loopw [7] (fun vi wr=>∃i:Nat,vi=.int .i64 (i:Int)/\i1<=i/\i<=b/\Hid (scanSorted ltInt c b i=U)/\Hid (cd w g off sz wr c)) (fun vi _=>b-(dJ vi).toNat)
    case atStart=>exact⟨i1,rfl,Ab _,by omega,HU.out.symm,HW⟩
    case round=>
     obtain⟨i,rfl,cR,gi,HS,dP⟩:=hrel;clear HW;obtain⟨bj,bM⟩:=dP.out.row.iQ;rw[jj.out]at bj bM;by_cases hc:i<b
     ·have hz:(i:Int)<(b:Int):=(by omega);go_wp2_with fail;go_big_quiet (first|(go_at_call 155;refine As (jx _ _ _)));go_wp2_with fail
      ·go_roundw
       case rel=>exact⟨i+1,by go_num,by omega,by omega,anR HS.out hc (by first|omega|exact oB (by assumption)),dP.out.drewN _⟩
       case measure=>simp[dJ]<;>omega
      ·go_meet
       case rel=>exact⟨i,rfl,by omega,by omega,anT HS.out (by first|omega|exact oC (by assumption)),dP.out.drewN _⟩
     ·have hz:decide ((i:Int)<(b:Int))=false:=Bd (by omega);go_wp2_with fail;go_big_quiet (first|(go_at_call 155;refine As (jx _ _ _)));go_wp2_with fail;go_meet
      case rel=>exact⟨i,rfl,by omega,by omega,anS HS.out hc,dP.out.drewN _⟩
   case rest=>
    obtain⟨i,rfl,PJ,hi4,tW,dV⟩:=hcut;clear HW;have CU:=bI (ams kF.out PQ (tW.out.trans HU.out));clear kF tW HU;by_cases dN:i=b
    ·have hz:((i:Int)==(b:Int))=true:=(by simp[dN]);have aiR:=bI dN;clear dN;go_wp2_with fail;go_ret;exact ax.out true c _ (CU.out.1 aiR.out) dV.out
    ·have hz:((i:Int)==(b:Int))=false:=by simp;omega
     by_cases h50:b<a+50
     ·have cY:(b:Int)-(a:Int)<50:=(by omega);go_wp2_with fail;go_ret;exact ax.out false c _ (CU.out.2.1 dN (by omega)) dV.out
     ·have cY:¬((b:Int)-(a:Int)<50):=(by omega);have aS:=jj.out;obtain⟨bj,bM⟩:=dV.out.row.iQ;rw[aS]at bj bM;obtain⟨⟨q0,q1⟩,q2⟩:=(dV.out.put (show i<c.size by omega) c[i-1]!).row.nZ (show i-1<_ by simp;omega);have Hy:=bI (CU.out.2.2 dN (by omega));go_wp2_with fail;go_region;have x8:=bI ((dV.out.drew).swap (show i<c.size by omega) (show i-1<c.size by omega));obtain⟨c1,nD⟩:∃c1,c1=swp c i (i-1):=⟨_,rfl⟩
      rw[<-nD]at x8 Hy;have cR:Hid (c1.size=n):=by rw[nD];exact(size_swp _ _ _).trans aS
      obtain⟨c2,jh⟩:∃c2,c2=fixDown ltInt a i c1:=⟨_,rfl⟩
      rw[<-jh]at Hy;have iN:=bI jh;clear bj bM q1 q2 dV CU nD jh;go_upto_if 61 with fail
      go_cut [7] (fun sx wx=>sx=.int .i64 (i:Int)/\Hid (c2.size=n)/\Hid (cd w g off sz wx c2))
      case first=>
       by_cases h2:a+2<=i
       ·have VA:(2:Int)<=(i:Int)-(a:Int):=(by omega);go_wp2_with fail;have J2:Hid (shiftDown ltInt (i-1) c1=c2):=by rw[iN.out];unfold fixDown;rw[if_pos (by omega)];exact rfl
        go_loopw [9] (fun vj wr=>∃(j:Nat) (e:Array Int),vj=.int .i64 (j:Int)/\j<i/\j<n/\Hid (e.size=n)/\Hid (shiftDown ltInt j e=c2)/\Hid (cd w g off sz wr e)) (fun vj _=>(dJ vj).toNat)
        case atStart=>exact⟨i-1,c1,by congr 1;omega,by omega,by omega,cR,J2,x8⟩
        case round=>
         obtain⟨j,e,rfl,ajm,gi,kt,HS,dP⟩:=hrel;clear x8 J2;by_cases hc:1<=j
         ·have hz:(1:Int)<=(j:Int):=(by omega);obtain⟨bj,bM⟩:=dP.out.row.iQ;rw[kt.out]at bj bM;go_wp2_with fail;go_big_quiet (first|(go_at_call 155;refine As (jx _ _ _)));go_wp2_with fail
          ·go_meet
           case rel=>
            have E:=anH HS.out (by first|omega|exact oB (by assumption));rw[<-E];exact⟨rfl,kt,dP.out.drewN _⟩
          ·have uQ:=bI (dP.out.drewN nq);have jF:∀t,t<n->(wr.drewN nq).cell? ⟨g,off+t,none⟩=some (.int .i32 e[t]!):=(bj);have jG:∀t,t<n->(wr.drewN nq).frozen? ⟨g,off+t,none⟩=false:=bM
           clear bj bM dP;generalize wr.drewN nq=wr2 at jF jG uQ⊢;obtain⟨⟨q0,q1⟩,q2⟩:=(uQ.out.put (show j<e.size by have:=kt.out;omega) e[j-1]!).row.nZ (show j-1<_ by have:=kt.out;simp;omega);go_region;go_wp2_with fail;go_roundw
           case rel=>exact⟨j-1,_,by congr 1;omega,by omega,by omega,(size_swp _ _ _).trans kt.out,anF HS.out hc (by first|omega|exact oC (by assumption)),(uQ.out.drew).swap (show j<e.size by have:=kt.out;omega) (show j-1<e.size by have:=kt.out;omega)⟩
           case measure=>simp[dJ]<;>omega
         ·have hz:¬((1:Int)<=(j:Int)):=(by omega);go_wp2_with fail;go_meet
          case rel=>
           have E:=anG HS.out (by omega);rw[<-E];exact⟨rfl,kt,dP.out⟩
       ·have VA:¬((2:Int)<=(i:Int)-(a:Int)):=(by omega);go_wp2_with fail;go_meet
        case rel=>
         have E:c2=c1:=by rw[iN.out];unfold fixDown;rw[if_neg (by omega)]
         rw[E];exact⟨rfl,cR,x8⟩
      case rest=>
       obtain⟨rfl,gi,Y4⟩:=hcut;clear x8;have x8:=Y4;clear Y4 iN cR;obtain⟨c3,LM⟩:∃c3,c3=fixUp ltInt b i c2:=⟨_,rfl⟩
       rw[<-LM]at Hy;have tA:=bI LM;clear LM;by_cases h2:i+2<=b
       ·have VA:(2:Int)<=(b:Int)-(i:Int):=(by omega);go_wp2_with fail;have J2:Hid (shiftUp ltInt b (i+1) c2=c3):=by rw[tA.out];unfold fixUp;rw[if_pos (by omega)];exact rfl
        go_loopw [10] (fun vj wr=>∃(j:Nat) (e:Array Int),vj=.int .i64 (j:Int)/\j<=b/\i+1<=j/\Hid (e.size=n)/\Hid (shiftUp ltInt b j e=c3)/\Hid (cd w g off sz wr e)) (fun vj _=>(b-(dJ vj).toNat))
        case atStart=>exact⟨i+1,c2,by go_num,by omega,by omega,gi,J2,x8⟩
        case round=>
         obtain⟨j,e,rfl,ajm,ap7,kt,HS,dP⟩:=hrel;clear x8 J2;by_cases hc:j<b
         ·have hz:(j:Int)<(b:Int):=(by omega);obtain⟨bj,bM⟩:=dP.out.row.iQ;rw[kt.out]at bj bM;go_wp2_with fail;go_big_quiet (first|(go_at_call 155;refine As (jx _ _ _)));go_wp2_with fail
          ·go_roundw
           case rel=>
            have E:=aot HS.out (by first|omega|exact oB (by assumption));exact⟨i,j1+1,e,rfl,by go_num,by omega,by omega,by omega,kt,by rw[E];exact Hy,dP.out.drewN _⟩
           case measure=>simp[dJ]<;>omega
          ·have uQ:=bI (dP.out.drewN nq);have jF:∀t,t<n->(wr.drewN nq).cell? ⟨g,off+t,none⟩=some (.int .i32 e[t]!):=(bj);have jG:∀t,t<n->(wr.drewN nq).frozen? ⟨g,off+t,none⟩=false:=bM
           clear bj bM dP;generalize wr.drewN nq=wr2 at jF jG uQ⊢;obtain⟨⟨q0,q1⟩,q2⟩:=(uQ.out.put (show j<e.size by have:=kt.out;omega) e[j-1]!).row.nZ (show j-1<_ by have:=kt.out;simp;omega);go_region;go_wp2_with fail;go_roundw
           case rel=>exact⟨j+1,_,by go_num,by omega,by omega,(size_swp _ _ _).trans kt.out,aor HS.out hc (by first|omega|exact oC (by assumption)),(uQ.out.drew).swap (show j<e.size by have:=kt.out;omega) (show j-1<e.size by have:=kt.out;omega)⟩
           case measure=>simp[dJ]<;>omega
         ·have hz:¬((j:Int)<(b:Int)):=(by omega);go_wp2_with fail;go_roundw
          case rel=>
           have E:=aos HS.out hc;exact⟨i,j1+1,e,rfl,by go_num,by omega,by omega,by omega,kt,by rw[E];exact Hy,dP.out⟩
          case measure=>simp[dJ]<;>omega
       ·have VA:¬((2:Int)<=(b:Int)-(i:Int)):=(by omega);go_wp2_with fail;go_roundw
        case rel=>
         have E:c3=c2:=by rw[tA.out];unfold fixUp;rw[if_neg (by omega)]
         exact⟨i,j1+1,c2,rfl,by go_num,by omega,by omega,by omega,gi,by rw[<-E];exact Hy,x8⟩
        case measure=>simp[dJ]<;>omega
  ·have hz5:¬((j1:Int)<5):=(by omega);go_wp2_with fail;go_ret;exact ax.out false c _ (amt kF.out PQ) HW.out
theorem cd.new(h:cd w g off sz w1 d)(o:Obj):cd w g off sz (w1.alloc o) d:=⟨h.row.kept ((aa.refl af w1).alloc o) (fun hx=>hx),h.kept.alloc o⟩
theorem cd.anA{s:Nat}(h:cd w g off sz w1 d)(hs:w.heap.size<=s)(hg:g≠s)(u:Value):cd w g off sz (w1.setCell ⟨s,j,none⟩ u) d:=
 ⟨h.row.kept ((aa.refl (fun i=>i=s) w1).setCell (p:=⟨s,j,none⟩) (Or.inl rfl) u) hg,h.kept.setCell (p:=⟨s,j,none⟩) (Or.inr hs) u⟩
theorem agp(hd:d.size=n)(hR:iI w g off sz d)(lq:a+12<=b)(hb:b<=n)(hn:n<1000000000):
 Calls prog 151 #[.slice (some ⟨g,off,none⟩) n cap,.int .i64 (a:Int),.int .i64 (b:Int)] w fun e w'=>e=.returned (.tuple #[])/\Zr w g off sz a b d w':=by
 obtain⟨M,hM⟩:∃M:Nat,M=1<<<bitsLen (b-a):=⟨_,rfl⟩
 have iK:1<=M:=by rw[hM,Nat.one_shiftLeft];exact Nat.two_pow_pos _
 have EB:M<=2*(b-a):=by rw[hM,Nat.one_shiftLeft];exact two_pow_bitsLen_le (by omega)
 have hNP:Hid (∀w,Calls prog 176 #[.int .i64 ((b:Int)-(a:Int))] w fun e w'=>e=.returned (.int .u64 (M:Int))/\w'=w):=by
  intro w;rw[show(b:Int)-(a:Int)=((b-a:Nat):Int) by omega,hM];exact aln (b-a) (by omega) w
 have wW:=hR.lt;have kR:g≠w.heap.size:=by omega
 have Vo:w.heap.size≠g:=by omega
 have lG:=bI ((cd.refl hR).new (.cells #[.int .u64 ((b:Int)-(a:Int))] 265));have h8:(8:Int)<=(b:Int)-(a:Int):=by omega
 have YR:Hid (PermIn a b d d):=permIn_refl _ _ _;have HD:=bI hd;clear hM hR hd;go_enter func151,ntmps151;go_wp2_with fail;refine(hNP.out _).mono ?_;rintro e w' ⟨rfl,rfl⟩;go_wp2_with fail;go_loopw [9] (fun vi wr=>∃(i X:Nat) (c:Array Int),vi=.int .i64 (i:Int)/\a<=i/\i<=a+(b-a) /4*2+2/\X<18446744073709551616/\wr.cell? ⟨w.heap.size,0,none⟩=some (.int .u64 (X:Int))/\wr.frozen? ⟨w.heap.size,0,none⟩=false/\Hid (c.size=n)/\Hid (PermIn a b d c)/\Hid (cd w g off sz wr c)) (fun vi _=>a+(b-a) /4*2+2-(dJ vi).toNat)
 case atStart=>
  refine⟨a+(b-a) /4*2-1,b-a,d,by congr 1;omega,by omega,by omega,by omega,?_,by simp,HD,YR,lG⟩;rw[show((b-a:Nat):Int)=(b:Int)-(a:Int) by omega];simp
 case round=>
  clear lG YR HD;obtain⟨i,X,c,rfl,og,lr,hX,cX,fX,jj,HP,HW⟩:=hrel;by_cases hc:i<=a+(b-a) /4*2+1
  ·have hz:(i:Int)<=(a:Int)+((b:Int)-(a:Int)) /4*2+1:=(by omega);obtain⟨X',Uq⟩:∃X':Nat,X'=xorNextN X:=⟨_,rfl⟩
   have lX':X'<18446744073709551616:=by rw[Uq];exact xorNextN_lt X hX
   obtain⟨O,hO⟩:∃O:Nat,O=X'&&& (M-1):=⟨_,rfl⟩
   have lO:O<=M-1:=by rw[hO];exact Nat.and_le_right
   have ape:bits .and .u64 (X':Int) ((M:Int)-1)=(O:Int):=by
    rw[show((M:Int)-1)=((M-1:Nat):Int) by omega,bits_and_u64_nat _ _ lX' (by omega),hO]
   have F:=ao1 w.heap.size X hX wr cX fX;rw[<-Uq]at F;have F:=bI F;have oJ:=bI ((HW.out.anA (j:=0) (Ab _) kR (.int .u64 (X':Int))).drewN 3)
   have Tq:((wr.setCell ⟨w.heap.size,0,none⟩ (.int .u64 (X':Int))).drewN 3).cell? ⟨w.heap.size,0,none⟩=some (.int .u64 (X':Int)):=by
    rw[World.cell?_drewN];exact World.cell?_setCell_same _ _ _ cX
   have fX1:((wr.setCell ⟨w.heap.size,0,none⟩ (.int .u64 (X':Int))).drewN 3).frozen? ⟨w.heap.size,0,none⟩=false:=by
    rw[World.frozen?_drewN];simpa using fX
   clear HW Uq hO;generalize(wr.setCell ⟨w.heap.size,0,none⟩ (.int .u64 (X':Int))).drewN 3=w2 at F oJ Tq fX1;clear cX fX hX;go_wp2_with fail;refine(F.out).mono ?_;rintro e w' ⟨rfl,rfl⟩;clear F;go_upto_if 43 with fail
   go_cut [10] (fun sx wx=>∃o:Nat,sx=.int .i64 (o:Int)/\o<b-a/\wx=w')
   case first=>
    by_cases hL:b-a<=O
    ·have hzL:(b:Int)-(a:Int)<=(O:Int):=(by omega);go_wp2_with fail;go_meet
     case rel=>exact⟨O-(b-a),by congr 1;omega,by omega,rfl⟩
    ·have hzL:¬((b:Int)-(a:Int)<=(O:Int)):=(by omega);go_wp2_with fail;go_meet
     case rel=>exact⟨O,rfl,by omega,rfl⟩
   case rest=>
    obtain⟨o,rfl,ho,rfl⟩:=hcut;obtain⟨bj,bM⟩:=oJ.out.row.iQ;rw[jj.out]at bj bM;obtain⟨⟨q0,q1⟩,q2⟩:=(oJ.out.put (show i<c.size by have:=jj.out;omega) c[a+o]!).row.nZ (show a+o<_ by have:=jj.out;simp;omega);go_wp2_with fail;go_region;have dV:=bI ((oJ.out.drew).swap (show i<c.size by have:=jj.out;omega) (show a+o<c.size by have:=jj.out;omega));have Hx:Hid (PermIn a b d (swp c i (a+o))):=permIn_trans _ _ _ _ _ HP.out (swp_permIn _ _ _ _ _ og (by omega) (by omega) (by omega) (by have:=jj.out;omega));have kk:=(((aa.refl (fun i=>i=g) wc).drew).setCell (p:=⟨g,off+i,none⟩) (Or.inl rfl) (.int .i32 c[a+o]!)).setCell (p:=⟨g,off+(a+o),none⟩) (Or.inl rfl) (.int .i32 c[i]!);have jH:=Bh _ _ Tq;have XM:=bI (And.intro ((kk.cell (p:=⟨w.heap.size,0,none⟩) jH Vo).trans Tq) ((kk.frozen (p:=⟨w.heap.size,0,none⟩) jH Vo).trans fX1));clear bj bM q1 q2 kk;go_wp2_with fail;go_roundw
    case rel=>
     exact⟨i+1,X',_,by go_num,by omega,by omega,lX',XM.out.1,XM.out.2,(size_swp _ _ _).trans jj.out,Hx,dV⟩
    case measure=>simp[dJ]<;>omega
  ·have hz:¬((i:Int)<=(a:Int)+((b:Int)-(a:Int)) /4*2+1):=(by omega);go_wp2_with fail;go_end0;exact⟨rfl,c,HP.out,HW.out⟩
def SV(w:World)(g off sz a b:Nat)(d:Array Int)(w':World):Prop:=∃c:Array Int,PermIn a b d c/\SortedIn ltInt a b c/\cd w g off sz w' c
def oG(a b:Nat)(d:Array Int)(a1 b1:Nat)(c:Array Int):Prop:=Below ltInt a1 b1 c/\∀R,PermIn a1 b1 c R->SortedIn ltInt a1 b1 R->PermIn a b d R/\SortedIn ltInt a b R
theorem oG.vf{R:Array Int}(h:oG a b d a1 b1 c)(hR:PermIn a1 b1 c R/\SortedIn ltInt a1 b1 R)(hw:cd w g off sz w1 R):SV w g off sz a b d w1:=
 ⟨R,(h.2 R hR.1 hR.2).1,(h.2 R hR.1 hR.2).2,hw⟩
theorem oG.perm(h:oG a b d a1 b1 c)(hb:b1<=c.size)(hp:PermIn a1 b1 c c'):oG a b d a1 b1 c':=
 ⟨h.1.perm hb hp,fun R h1 h2=>h.2 R (permIn_trans _ _ _ _ _ hp h1) h2⟩
theorem oG.eq(h:oG a b d a1 b1 c)(hb:b1<=c.size)(hp:a1<=p/\p<b1)(h0:0<a1)(hl:¬c[a1-1]! <c[p]!)(hx:partitionEqual ltInt c a1 b1 p=(m,c')):c'.size=c.size/\oG a b d m b1 c':=by
 obtain⟨_,_,h3,h4,h5⟩:=round_eq swo_ltInt (partitionEqual_holds ltInt) h0 hp.1 hp.2 hb h.1 (by rw[iV];exact Bd hl) hx;exact⟨h3,h4,fun R r1 r2=>h.2 R (h5 R r1 r2).1 (h5 R r1 r2).2⟩
theorem oG.part{t:Bool}(h:oG a b d a1 b1 c)(hb:b1<=c.size)(hp:a1<=p/\p<b1)(hx:partition ltInt c a1 b1 p=(m,t,c')):
 c'.size=c.size/\Below ltInt a1 m c'/\Below ltInt (m+1) b1 c'/\(∀L,PermIn a1 m c' L->SortedIn ltInt a1 m L->oG a b d (m+1) b1 L)/\∀L,PermIn (m+1) b1 c' L->SortedIn ltInt (m+1) b1 L->oG a b d a1 m L:=by
 obtain⟨_,_,h3,h4,h5,h6,h7⟩:=round_part swo_ltInt (partition_holds ltInt) hp.1 hp.2 hb h.1 hx;exact⟨h3,h4,h5,fun L l1 l2=>⟨(h6 L l1 l2).1,fun R r1 r2=>h.2 R ((h6 L l1 l2).2 R r1 r2).1 ((h6 L l1 l2).2 R r1 r2).2⟩,fun L l1 l2=>⟨(h7 L l1 l2).1,fun R r1 r2=>h.2 R ((h7 L l1 l2).2 R r1 r2).1 ((h7 L l1 l2).2 R r1 r2).2⟩⟩
theorem amD(hd:d.size=n)(hR:iI w g off sz d)(lq:a+12<=b)(hb:b<=n)(hn:n<4611686018427387904):
 Calls prog 152 #[.slice (some ⟨g,off,none⟩) n cap,.int .i64 (a:Int),.int .i64 (b:Int)] w fun e w'=>∃(p:Nat) (h:Int),e=.returned (.tuple #[.int .i64 (p:Int),.int .i64 h])/\(a<=p/\p<b)/\cd w g off sz w' d:=by
 have hRo:=hR.ok;rw[hd]at hRo;refine(amC hRo lq hb hn).mono ?_;rintro e w' ⟨p,h,h1,h2,h3⟩;exact⟨p,h,h1,h2,hR.kept h3 (fun hx=>hx),h3.mono (fun _ hx=>hx.elim)⟩
theorem amn(hn:n<1000000000):∀(N:Nat) (w:World) (d:Array Int) (a b lim:Nat),b-a<=N->d.size=n->Below ltInt a b d->iI w g off sz d->a<=b->b<=n->lim<=100->
 Calls prog 123 #[.slice (some ⟨g,off,none⟩) n cap,.int .i64 (a:Int),.int .i64 (b:Int),.int .i64 (lim:Int)] w fun e w'=>e=.returned (.tuple #[])/\SV w g off sz a b d w':=by
 intro N;induction N using Nat.strongRecOn with
 |ind N IH=>
 intro w d a b lim hN hd T7 hR lq hb abN;have YA:=bI IH;have lG:=bI (cd.refl hR);have Yv:Hid (oG a b d a b d):=⟨T7,fun R h1 h2=>⟨h1,h2⟩⟩;have HD:=bI hd;clear IH hR hd T7;go_enter func123,ntmps123;go_wp2_with fail;go_loopw [1,2,3,8,9] (fun va vb vl vwb vwp wr=>∃(a1 b1 l1:Nat) (wb wp:Bool) (c:Array Int),va=.int .i64 (a1:Int)/\vb=.int .i64 (b1:Int)/\vl=.int .i64 (l1:Int)/\vwb=.bool wb/\vwp=.bool wp/\a1<=b1/\b1<=n/\b1-a1<=N/\l1<=100/\Hid (c.size=n)/\Hid (oG a b d a1 b1 c)/\Hid (cd w g off sz wr c)) (fun va vb _ _ _ _=>(dJ vb-dJ va).toNat)
 case atStart=>exact⟨a,b,lim,true,true,d,rfl,rfl,rfl,rfl,rfl,lq,hb,hN,abN,HD,Yv,lG⟩
 case round=>
  clear lG lq hb hN abN HD Yv;obtain⟨a1,b1,l1,wb,wp,c,rfl,rfl,rfl,rfl,rfl,lq,hb,hN,hl,HS,HG,HW⟩:=hrel;by_cases h12:b1<=a1+12
  ·have hz:(b1:Int)-(a1:Int)<=12:=(by omega);have F:=bI (ajS (cap:=cap) HS.out HW.out.row lq hb (by omega));go_wp2_with fail;refine(F.out).mono ?_;rintro e w1 ⟨rfl,P1⟩;go_wp2_with fail;(try simp only[Exit.inBlock,Exit.then]);refine Bj (Df rfl _ _ _) rfl ?_;exact⟨rfl,HG.out.vf (insertionSort_holds swo_ltInt c a1 b1 lq (by have:=HS.out;omega)) (HW.out.trans P1)⟩
  ·have hz:¬((b1:Int)-(a1:Int)<=12):=(by omega);by_cases PV:l1=0
   ·have di:((l1:Int)==0)=true:=(by simp[PV]);have F:=bI (aiF (cap:=cap) HS.out HW.out.row (show a1<b1 by omega) hb hn);go_wp2_with fail;refine(F.out).mono ?_;rintro e w1 ⟨rfl,P1⟩;go_wp2_with fail;(try simp only[Exit.inBlock,Exit.then]);refine Bj (Df rfl _ _ _) rfl ?_;exact⟨rfl,HG.out.vf (heapSort_holds swo_ltInt c a1 b1 lq (by have:=HS.out;omega)) (HW.out.trans P1)⟩
   ·have di:((l1:Int)==0)=false:=by simp;omega
    go_upto_if 35 with fail
    go_cut [3] (fun sx wx=>∃(l2:Nat) (c1:Array Int),sx=.int .i64 (l2:Int)/\l2<=100/\Hid (c1.size=n)/\Hid (oG a b d a1 b1 c1)/\Hid (cd w g off sz wx c1))
    case first=>
     cases wb with
     |true=>
      go_wp2_with fail
      go_meet
      case rel=>exact⟨l1,c,rfl,hl,HS,HG,HW⟩
     |false=>
      have F:=bI (agp (cap:=cap) HS.out HW.out.row (show a1+12<=b1 by omega) hb hn);go_wp2_with fail;refine(F.out).mono ?_;rintro e w1 ⟨rfl,c1,PP,P1⟩;have oJ:=bI (HW.out.trans P1);have uN:Hid (c1.size=n):=PP.1.trans HS.out;have J8:=bI (HG.out.perm (by have:=HS.out;omega) PP);clear P1 F PP;go_wp2_with fail;go_meet
      case rel=>exact⟨l1-1,c1,by congr 1;omega,by omega,uN,J8,oJ⟩
    case rest=>
     obtain⟨l2,c1,rfl,sR,uN,J8,oJ⟩:=hcut;clear HW PV di hl HS HG;have F:=bI (amD (cap:=cap) uN.out oJ.out.row (show a1+12<=b1 by omega) hb (by omega));go_wp2_with fail;refine(F.out).mono ?_;rintro e w2 ⟨p,h,rfl,hp,P2⟩;have dV:=bI (oJ.out.trans P2);clear P2 F oJ;go_upto_if 50 with fail
     go_cut [11,12] (fun vX tm wx=>∃(p2:Nat) (h2:Int) (c2:Array Int),vX=.int .i64 (p2:Int)/\tm=.int .i64 h2/\(a1<=p2/\p2<b1)/\Hid (c2.size=n)/\Hid (oG a b d a1 b1 c2)/\Hid (cd w g off sz wx c2))
     case first=>
      by_cases h2:h=2
      ·have cY:(h==2)=true:=(by simp[h2]);have F:=bI (am_ (cap:=cap) uN.out dV.out.row (show a1<b1 by omega) hb (by omega));clear h2;go_wp2_with fail;refine(F.out).mono ?_;rintro e w3 ⟨rfl,c2,PP,P3⟩;have fp:=bI (dV.out.trans P3);have gX:Hid (c2.size=n):=PP.1.trans uN.out;have nP:=bI (J8.out.perm (by have:=uN.out;omega) PP);clear P3 F PP;go_wp2_with fail;go_meet
       case rel=>exact⟨b1-1-(p-a1),1,c2,by congr 1;omega,rfl,by omega,gX,nP,fp⟩
      ·have cY:(h==2)=false:=(by simp[h2]);clear h2;go_wp2_with fail;go_meet
       case rel=>exact⟨p,h,c1,rfl,rfl,hp,uN,J8,dV⟩
     case rest=>
      obtain⟨p2,h2,c2,rfl,rfl,qB,gX,nP,fp⟩:=hcut;clear dV hp uN J8;go_upto_region 15 with fail
      go_cut [68] (fun sx wx=>∃c:Nat,sx=.bool (c==1)/\Hid (cd w g off sz wx c2))
      case first=>
       cases wb with
       |false=>
        go_wp2_with fail
        go_meet
        case rel=>exact⟨0,rfl,fp⟩
       |true=>
        cases wp with
        |false=>
         go_wp2_with fail
         go_meet
         case rel=>exact⟨0,rfl,fp⟩
        |true=>
         by_cases h1:h2=1
         ·have dj:(h2==1)=true:=(by simp[h1]);clear h1;go_wp2_with fail;go_meet
          case rel=>exact⟨1,rfl,fp⟩
         ·have dj:(h2==1)=false:=(by simp[h1]);clear h1;go_wp2_with fail;go_meet
          case rel=>exact⟨0,rfl,fp⟩
      case rest=>
       obtain⟨cz,rfl,oK⟩:=hcut;clear fp;go_upto_if 68 with fail
       go_cut [11] (fun sx wx=>∃c3:Array Int,sx=.int .i64 (p2:Int)/\Hid (c3.size=n)/\Hid (oG a b d a1 b1 c3)/\Hid (cd w g off sz wx c3))
       case first=>
        by_cases hc:cz=1
        ·have VC:(cz==1)=true:=(by simp[hc]);have F:=bI (amB (cap:=cap) gX.out oK.out.row (show a1+2<=b1 by omega) hb hn);clear hc;go_wp2_with fail;refine(F.out).mono ?_;rintro e w5 ⟨t,c3,rfl,E5,P5⟩;have CW:=bI (oK.out.trans P5);have xU:=bI (partialInsertionSort_holds swo_ltInt c2 a1 b1 (by omega) (by have:=gX.out;omega) nP.out.1);rw[E5]at xU;have xX:Hid (c3.size=n):=xU.out.1.1.trans gX.out;have CM:=bI (nP.out.perm (by have:=gX.out;omega) xU.out.1);clear P5 F E5
         cases t with
         |true=>
          go_wp2_with fail
          (try simp only[Exit.inBlock,Exit.then]);refine Bj (Df rfl _ _ _) rfl ?_
          exact⟨rfl,nP.out.vf ⟨xU.out.1,xU.out.2 (by first|rfl|trivial)⟩ CW.out⟩
         |false=>
          go_wp2_with fail
          go_meet
          case rel=>exact⟨c3,rfl,xX,CM,CW⟩
        ·have VC:(cz==1)=false:=(by simp[hc]);clear hc;go_wp2_with fail;go_meet
         case rel=>exact⟨c2,rfl,gX,nP,oK⟩
       case rest=>
        obtain⟨c3,rfl,xX,CM,CW⟩:=hcut;clear oK gX nP;go_upto_region 17 with fail
        go_cut [87] (fun sx wx=>∃c2:Nat,sx=.bool (c2==1)/\Hid (c2=1->0<a1/\c3[p2]! <=c3[a1-1]!)/\Hid (cd w g off sz wx c3))
        case first=>
         obtain⟨bj,bM⟩:=CW.out.row.iQ;rw[xX.out]at bj bM;by_cases ha0:0<a1
         ·have hza:(0:Int)<(a1:Int):=(by omega);go_big_quiet (first|(go_at_call 155;refine As (jx _ _ _)));go_wp2_with fail;go_meet
          case rel=>exact⟨if c3[a1-1]! <c3[p2]! then 0 else 1,by(by_cases hG:c3[a1-1]! <c3[p2]!)<;>simp only[hG]<;>rfl,fun hq=>⟨ha0,Int.not_lt.1 (fun hG=>by rw[if_pos hG]at hq;cases hq)⟩,CW.out.drewN _⟩
         ·have hza:decide ((0:Int)<(a1:Int))=false:=Bd (by omega);go_big_quiet (first|(go_at_call 155;refine As (jx _ _ _)));go_wp2_with fail;go_meet
          case rel=>exact⟨0,rfl,fun hq=>(by cases hq),CW.out.drewN _⟩
        case rest=>
         obtain⟨c2,rfl,iN,H7⟩:=hcut;clear CW;by_cases jh:c2=1
         ·have VC:(c2==1)=true:=(by simp[jh]);have F:=bI (amq (cap:=cap) xX.out H7.out.row (show a1+2<=b1 by omega) hb hn qB);have HQ:=bI (iN.out jh);clear jh;go_wp2_with fail;refine(F.out).mono ?_;rintro e w7 ⟨m,rfl,hm,c4,E7,P7⟩;have zw:=bI (H7.out.trans P7);have G7:=bI (CM.out.eq (by have:=xX.out;omega) qB HQ.out.1 (Int.not_lt.2 HQ.out.2) E7);have H0:Hid (c4.size=n):=G7.out.1.trans xX.out;clear P7 F H7 E7;go_wp2_with fail;go_roundw
          case rel=>exact⟨m,b1,l2,wb,wp,c4,rfl,rfl,rfl,rfl,rfl,by omega,hb,by omega,sR,H0,G7.out.2,zw⟩
          case measure=>simp[dJ]<;>omega
         ·have VC:(c2==1)=false:=(by simp[jh]);have F:=bI (amg (cap:=cap) xX.out H7.out.row (show a1+2<=b1 by omega) hb hn qB);clear jh;go_wp2_with fail;refine(F.out).mono ?_;rintro e w7 ⟨m,t,rfl,hm,c4,E7,P7⟩;have zw:=bI (H7.out.trans P7);have G7:=bI (CM.out.part (by have:=xX.out;omega) qB E7);have H0:Hid (c4.size=n):=G7.out.1.trans xX.out;clear P7 F H7 E7;have FL:=bI (YA.out (m-a1) (by omega) w7 c4 a1 m l2 (Ab _) H0.out G7.out.2.1 zw.out.row (by omega) (by omega) sR);have FR:=YA.out (b1-(m+1)) (by omega) w7 c4 (m+1) b1 l2 (Ab _) H0.out G7.out.2.2.1 zw.out.row (by omega) (by omega) sR;rw[show((m+1:Nat):Int)=(m:Int)+1 by omega]at FR;have FR:=bI FR;by_cases hlr:m-a1<b1-m
          ·have hzl:(m:Int)-(a1:Int)<(b1:Int)-(m:Int):=(by omega);go_wp2_with fail;refine(FL.out).mono ?_;rintro e w8 ⟨rfl,c5,PP,SS,P8⟩;have SC:=bI (zw.out.trans P8);have xY:Hid (c5.size=n):=PP.1.trans H0.out;have G8:=bI (G7.out.2.2.2.1 c5 PP SS);clear P8 FL FR zw PP SS;go_wp2_with fail;go_roundw
           case rel=>exact⟨m+1,b1,l2,_,t,c5,by go_num,rfl,rfl,rfl,rfl,by omega,hb,by omega,sR,xY,G8,SC⟩
           case measure=>simp[dJ]<;>omega
          ·have hzl:¬((m:Int)-(a1:Int)<(b1:Int)-(m:Int)):=(by omega);go_wp2_with fail;refine(FR.out).mono ?_;rintro e w8 ⟨rfl,c5,PP,SS,P8⟩;have SC:=bI (zw.out.trans P8);have xY:Hid (c5.size=n):=PP.1.trans H0.out;have G8:=bI (G7.out.2.2.2.2 c5 PP SS);clear P8 FL FR zw PP SS;go_wp2_with fail;go_roundw
           case rel=>exact⟨a1,m,l2,_,t,c5,rfl,rfl,rfl,rfl,rfl,by omega,by omega,by omega,sR,xY,G8,SC⟩
           case measure=>simp[dJ]<;>omega
structure qU(d:Array Int)(m k:Nat)(c:Array Int):Prop where
 rest:∀t,m<=t+1->c[t]! =d[t]!
 low:∀t,t<k->c[t]! <=d[m-1]!
 zG:∀i j,i<j->j<k->c[i]! <c[j]!
 sub:∀t,t<k->∃s,s<d.size/\c[t]! =d[s]!
 all:∀s,s<m->∃t,t<k/\c[t]! =d[s]!
theorem Rt(h:SortedIn ltInt 0 n d)(cQ:i<=j)(hj:j<n):d[i]! <=d[j]! :=by
 by_cases e:i=j
 ·rw[e];exact Cg _
 ·have:=h i j (Am _) (by omega) hj;rw[iV,A8]at this;omega
theorem aeW(h:SortedIn ltInt 0 n d)(hk:k<=n)(az:∀i,1<=i->i<k->d[i]! ≠d[i-1]!)(cQ:i<j)(hj:j<k):d[i]! <d[j]! :=by
 have h1:=Rt h (show i<=j-1 by omega) (show j-1<n by omega);have h2:=Rt h (show j-1<=j by omega) (show j<n by omega);have h3:=az j (by omega) hj;omega
theorem qU.start(az:∀i,1<=i->i<k->d[i]! ≠d[i-1]!)(h:SortedIn ltInt 0 n d)(hd:d.size=n)(h1:1<=k)(hk:k<n)(he:d[k]! =d[k-1]!):qU d (k+1) k d:=
 ⟨fun _ _=>rfl,fun t ht=>Rt h (by omega) (by omega),fun i j cQ hj=>aeW h (by omega) az cQ hj,fun t ht=>⟨t,by omega,rfl⟩,fun s hs=>by
   by_cases e:s=k
   ·exact⟨k-1,by omega,by rw[e,he]⟩
   ·exact⟨s,by omega,rfl⟩⟩
theorem qU.sh(hI:qU d m k c)(h:SortedIn ltInt 0 n d)(hd:d.size=n)(h1:1<=m)(hm:m<n)(hk:k+1<=m)(he:c[m]! =c[m-1]!):qU d (m+1) k c:=by
 have e1:c[m]! =d[m]! :=hI.rest m (by omega);have e2:c[m-1]! =d[m-1]! :=hI.rest (m-1) (by omega);refine⟨fun t ht=>hI.rest t (by omega),fun t ht=>?_,hI.zG,hI.sub,fun s hs=>?_⟩
 ·have:=hI.low t ht;rw[Ct];omega
 ·by_cases e:s=m
  ·obtain⟨t,ht,hx⟩:=hI.all (m-1) (by omega);exact⟨t,ht,by rw[e];omega⟩
  ·exact hI.all s (by omega)
theorem qU.next(hI:qU d m k c)(az:c[m]! ≠c[m-1]!)(h:SortedIn ltInt 0 n d)(hd:d.size=n)(hc:c.size=d.size)(hm:m<n)(hk:k+1<=m):qU d (m+1) (k+1) (c.setIfInBounds k c[m]!):=by
 have e1:c[m]! =d[m]! :=hI.rest m (by omega);have g1:∀t,t≠k->(c.setIfInBounds k c[m]!)[t]! =c[t]! :=fun t ht=>aa7 _ _ _ _ (fun e=>ht e.symm)
 have g2:(c.setIfInBounds k c[m]!)[k]! =d[m]! :=by rw[aa8 _ _ _ (by omega)];exact e1
 have up0:d[m-1]! <=d[m]! :=Rt h (by omega) hm;have e3:c[m-1]! =d[m-1]! :=hI.rest (m-1) (by omega);have up:d[m-1]! <d[m]! :=by omega
 refine⟨fun t ht=>?_,fun t ht=>?_,fun i j cQ hj=>?_,fun t ht=>?_,fun s hs=>?_⟩
 ·rw[g1 t (by omega)];exact hI.rest t (by omega)
 ·rw[Ct];by_cases e:t=k
  ·rw[e,g2];exact Cg _
  ·rw[g1 t e];have:=hI.low t (by omega);omega
 ·rw[g1 i (by omega)];by_cases e:j=k
  ·rw[e,g2];have:=hI.low i (by omega);omega
  ·rw[g1 j e];exact hI.zG i j cQ (by omega)
 ·by_cases e:t=k
  ·rw[e,g2];exact⟨m,by omega,rfl⟩
  ·rw[g1 t e];exact hI.sub t (by omega)
 ·by_cases e:s=m
  ·exact⟨k,by omega,by rw[e];exact g2⟩
  ·obtain⟨t,ht,hx⟩:=hI.all s (by omega);exact⟨t,by omega,by rw[g1 t (by omega)];exact hx⟩
def tw(w:World)(g cap:Nat)(d:Array Int):Ending->World->Prop:=fun e w'=>∃cl:List Int,e=.returned (.slice (some ⟨g,0,none⟩) cl.length cap)/\(∀i,(h:i<cl.length)->w'.cell? ⟨g,i,none⟩=some (.int .i32 cl[i]))/\cl.Pairwise (· < ·)/\(∀s,s<d.size->d[s]! ∈cl)/\(∀x∈cl,∃s,s<d.size/\x=d[s]!)/\aa (fun i=>i=g) w w'
theorem tw.MZ(hk:k<=c.size)(hkd:k<=d.size)(pH:∀t,t<k->w1.cell? ⟨g,t,none⟩=some (.int .i32 c[t]!))(EE:∀i j,i<j->j<k->c[i]! <c[j]!)(I9:∀t,t<k->∃s,s<d.size/\c[t]! =d[s]!)(nA:∀s,s<d.size->∃t,t<k/\c[t]! =d[s]!)(hK:aa (fun i=>i=g) w w1):tw w g cap d (.returned (.slice (some ⟨g,0,none⟩) k cap)) w1:=by
 have hl:((List.range k).map fun t=>c[t]!).length=k:=by simp
 refine⟨(List.range k).map fun t=>c[t]!,by rw[hl],fun i hi=>?_,?_,fun s hs=>?_,fun x hx=>?_,hK⟩
 ·rw[hl]at hi;rw[pH i hi];simp
 ·rw[Ce];intro i j hi hj cQ;rw[hl]at hi hj;simp only[List.getElem_map,List.getElem_range];exact EE i j cQ hj
 ·obtain⟨t,ht,hx⟩:=nA s hs;exact Bf.2 ⟨t,En.2 ht,hx⟩
 ·obtain⟨t,ht,rfl⟩:=Bf.1 hx;exact I9 t (En.1 ht)
theorem tw.all(az:∀i,1<=i->i<n->d[i]! ≠d[i-1]!)(hd:d.size=n)(hs:SortedIn ltInt 0 n d)(h:cd w g 0 sz w1 d):tw w g cap d (.returned (.slice (some ⟨g,0,none⟩) n cap)) w1:=
 tw.MZ (c:=d) (by omega) (by omega) (fun t ht=>by have:=h.row.iQ.1 t (by omega);rw[Ba]at this;exact this) (fun i j cQ hj=>aeW hs (Ab _) az cQ hj) (fun t ht=>⟨t,by omega,rfl⟩) (fun s hs=>⟨s,by omega,rfl⟩) h.kept
theorem aeA:∀(vs:List Value) (w1:World) (o t:Nat),t<o->(w1.setCells g o vs).cell? ⟨g,t,none⟩=w1.cell? ⟨g,t,none⟩
 | [],_,_,_,_=>rfl
 |v::vs,w1,o,t,h=>by
  refine(aeA vs (w1.setCell ⟨g,o,none⟩ v) (o+1) t (by omega)).trans ?_;exact World.cell?_setCell_other _ _ _ _ (by intro e;simp only[Addr.mk.injEq]at e;omega)
theorem tw.of{vs:List Value}(hd:d.size=n)(hc:c.size=n)(hk:k<=n)(hI:qU d m k c)(hm:m=n)(h:cd w g 0 sz w1 c):tw w g cap d (.returned (.slice (some ⟨g,0,none⟩) k cap)) (w1.setCells g k vs):=
 tw.MZ (c:=c) (by omega) (by omega) (fun t ht=>(aeA vs w1 k t ht).trans (by have:=h.row.iQ.1 t (by omega);rw[Ba]at this;exact this)) hI.zG hI.sub (fun s hs=>hI.all s (by omega)) (anx h.kept vs k)
theorem anL(hd:d.size=n)(hR:iI w g 0 sz d)(hn:n<1000000000):
 Calls prog 99 #[.slice (some ⟨g,0,none⟩) n cap] w fun e w'=>e=.returned (.tuple #[])/\SV w g 0 sz 0 n d w':=by
 have F:=bI (acF n hn w);have hu:IntKind.u64.wrap (n:Int)=n:=by simp[IntKind.wrap,IntKind.bits,IntKind.signed];omega
 have HR:=bI hR;clear hR;go_enter func99,ntmps99;go_wp2_with fail;refine(F.out).mono ?_;rintro e w1 ⟨l,rfl,hl,rfl⟩;have F2:=bI (amn (cap:=cap) hn n w1 d 0 n l (by omega) hd (Or.inl rfl) HR.out (by omega) (Ab _) hl);go_wp2_with fail;refine(F2.out).mono ?_;rintro e w2 ⟨rfl,P⟩;go_wp2_with fail;go_end0;exact⟨rfl,P⟩
theorem ag4(hd:d.size=n)(Vp:SortedIn ltInt 0 n d)(hR:iI w g 0 sz d)(hn:n<1000000000)(yt:n<=cap/\cap<=maxLen):
 Calls prog 100 #[.slice (some ⟨g,0,none⟩) n cap] w (tw w g cap d):=by
 have lG:=bI (cd.refl hR);have Ko:=bI Vp;have HD:=bI hd;clear hR Vp hd;by_cases h2:n<2
 ·have hz:(n:Int)<2:=by omega
  go_enter func100,ntmps100
  go_wp2_with fail
  go_ret
  exact tw.all (fun i h1 h2=>by omega) HD.out Ko.out lG.out
 ·have hz:¬((n:Int)<2):=by omega
  go_enter func100,ntmps100
  go_wp2_with fail
  go_loopw [3] (fun vk wr=>∃k:Nat,vk=.int .i64 (k:Int)/\1<=k/\k<=n/\Hid (∀i,1<=i->i<k->d[i]! ≠d[i-1]!)/\Hid (cd w g 0 sz wr d)) (fun vk _=>n-(dJ vk).toNat)
  case atStart=>exact⟨1,rfl,by omega,by omega,fun i h1 h2=>by omega,lG⟩
  case round=>
   clear lG;obtain⟨k,rfl,aT,aO,St,HW⟩:=hrel;by_cases hk:k<n
   ·have hzk:(k:Int)<(n:Int):=(by omega);obtain⟨EO,IT⟩:=HW.out.row.iQ;rw[HD.out]at EO IT;obtain⟨G,vn⟩:∃G:Nat->Int,∀t,G t=d[t]! :=⟨fun t=>d[t]!,fun _=>rfl⟩
    have pC:=bI vn;have bj:∀t,t<n->wr.cell? ⟨g,t,none⟩=some (.int .i32 (G t)):=fun t ht=>by have:=EO t ht;rw[vn];simpa using this
    clear EO IT vn;have d0:=bj k hk;have d1:=bj (k-1) (by omega);go_wp2_with fail;go_quiet (first|(go_at_call 155;refine As (jx _ _ _)));have oJ:=bI (HW.out.drewN nq);clear bj d0 d1 HW;generalize wr.drewN nq=wr1 at oJ⊢;by_cases hG:G k=G (k-1)
    ·have VB:(G k==G (k-1))=true:=(by simp[hG]);have hkc:(k:Int)<=(n:Int):=(by omega);have apH:k<=cap:=(by omega);have Hq:Hid (qU d (k+1) k d):=qU.start St.out Ko.out HD.out aT hk (by have h1:=pC.out k;have h2:=pC.out (k-1);omega);clear hG;go_wp2_with fail;go_loopw [3,5] (fun vk Xz wr=>∃(k3 k2:Nat) (c:Array Int),vk=.int .i64 (k3:Int)/\Xz=.int .i64 (k2:Int)/\1<=k2/\k2<=n-k/\k<=k3/\k3+1<=k+k2/\Hid (c.size=n)/\Hid (qU d (k+k2) k3 c)/\Hid (cd w g 0 sz wr c)) (fun _ Xz _=>n-(dJ Xz).toNat)
     case atStart=>exact⟨k,1,d,rfl,rfl,by omega,by omega,by omega,by omega,HD,Hq,oJ⟩
     case round=>
      obtain⟨k3,k2,c,rfl,rfl,cR,gi,qG,pM,ou,HC,dP⟩:=hrel;clear oJ Hq;obtain⟨EO,IT⟩:=dP.out.row.iQ;rw[ou.out]at EO IT;obtain⟨G2,Uf⟩:∃G2:Nat->Int,∀t,G2 t=c[t]! :=⟨fun t=>c[t]!,fun _=>rfl⟩
      have nP:=bI Uf;have bj:∀t,t<n->wr.cell? ⟨g,t,none⟩=some (.int .i32 (G2 t)):=fun t ht=>by have:=EO t ht;rw[Uf];simpa using this
      have bM:∀t,t<n->wr.frozen? ⟨g,t,none⟩=false:=fun t ht=>by have:=IT t ht;simpa using this
      clear EO IT Uf;by_cases apE:k2<n-k
      ·have cY:(k2:Int)<((n-k:Nat):Int):=(by omega);have d0:=bj (k+k2) (by omega);have d1:=bj (k+(k2-1)) (by omega);go_wp2_with fail;go_quiet (first|(go_at_call 155;refine As (jx _ _ _)));have uQ:=bI (dP.out.drewN nq);have c3:(wr.drewN nq).cell? ⟨g,k3,none⟩=some (.int .i32 (G2 k3)):=bj k3 (by omega);have f3:(wr.drewN nq).frozen? ⟨g,k3,none⟩=false:=bM k3 (by omega);have d2:(wr.drewN nq).cell? ⟨g,k+k2,none⟩=some (.int .i32 (G2 (k+k2))):=d0;clear bj bM d0 d1 dP;generalize wr.drewN nq=wr2 at uQ c3 f3 d2⊢;by_cases hG:G2 (k+k2)=G2 (k+(k2-1))
       ·have VB:(G2 (k+k2) !=G2 (k+(k2-1)))=false:=(by simp[hG]);have iN:Hid (qU d (k+(k2+1)) k3 c):=HC.out.sh Ko.out HD.out (by omega) (by omega) (by omega) (by have h1:=nP.out (k+k2);have h2:=nP.out (k+(k2-1));rw[show k+k2-1=k+(k2-1) by omega];omega);clear hG;go_wp2_with fail;go_roundw
        case rel=>exact⟨k3,k2+1,c,rfl,by go_num,by omega,by omega,by omega,by omega,ou,iN,uQ⟩
        case measure=>simp[dJ]<;>omega
       ·have VB:(G2 (k+k2) !=G2 (k+(k2-1)))=true:=by simp[hG]
        have iN:Hid (qU d (k+(k2+1)) (k3+1) (c.setIfInBounds k3 (G2 (k+k2)))):=by
         rw[nP.out];exact HC.out.next (by have h1:=nP.out (k+k2);have h2:=nP.out (k+(k2-1));rw[show k+k2-1=k+(k2-1) by omega];omega) Ko.out HD.out (ou.out.trans HD.out.symm) (by omega) (by omega)
        clear hG;go_wp2_with fail;go_roundw
        case rel=>exact⟨k3+1,k2+1,_,by go_num,by go_num,by omega,by omega,by omega,by omega,by rw[Array.size_setIfInBounds];exact ou,iN,bI (by have:=uQ.out.put (t:=k3) (by have:=ou.out;omega) (G2 (k+k2));rw[Ba]at this;exact this)⟩
        case measure=>simp[dJ]<;>omega
      ·have cY:¬((k2:Int)<((n-k:Nat):Int)):=by omega
       have fa:∀ty,(Builtin.clear_ #[96] ty #[.slice (some ⟨g,k3,none⟩) (n-k3) (cap-k3)]).run prog wr=.ok (.tuple #[]) (wr.setCells g k3 (List.replicate (n-k3) (.int .i32 0))):=
        fun ty=>Lib.run_clear_slice wr _ 21 ty _ underlying96 (by intro w;rfl) rfl rfl g k3 _ _ (by omega) (fun j hj=>by rw[bj (k3+j) (by omega)];rfl) (fun j hj=>bM (k3+j) (by omega))
       have bA:(k3:Int)<=(n:Int):=(by omega);have dA:k3<=cap:=(by omega);have ax:=bI (tw.of (cap:=cap) (vs:=List.replicate (n-k3) (.int .i32 0)) HD.out ou.out (by omega) HC.out (by omega) dP.out);clear bj bM dP;go_wp2_with fail;go_ret;exact ax.out
    ·have VB:(G k==G (k-1))=false:=by simp[hG]
     have afz:Hid (∀i,1<=i->i<k+1->d[i]! ≠d[i-1]!):=fun i h1 h2=>by
      by_cases e:i=k
      ·rw[e,<-pC.out,<-pC.out];exact hG
      ·exact St.out i h1 (by omega)
     clear hG;go_wp2_with fail;go_roundw
     case rel=>exact⟨k+1,by go_num,by omega,by omega,afz,oJ⟩
     case measure=>simp[dJ]<;>omega
   ·have hzk:¬((k:Int)<(n:Int)):=(by omega);go_wp2_with fail;go_ret;exact tw.all (fun i h1 h2=>St.out i h1 (by omega)) HD.out Ko.out HW.out
end Go.Proofs.YtpdnofhackjfdaaGreatDoor
