/- The library's so -/
import Derived.Test.YtpdnofhackjfdaaGreatDoorP36
set_option linter.all false
set_option maxRecDepth 100000
set_option maxHeartbeats 8000000
namespace Go.Proofs.YtpdnofhackjfdaaGreatDoor
open Go.Proofs.Tryz
open Go.RowKit Go.Lib Go.Sort
variable {c c' d:Array Int} {R:Array Int×Bool} {U a a1 b b1 cap g i i1 j j1 k m n off p sz:Nat} {w w1:World}
def Zp(w:World)(g off sz a b:Nat)(d:Array Int):Ending->World->Prop:=fun e w'=>∃(t:Bool) (c:Array Int),e=.returned (.bool t)/\partialInsertionSort ltInt d a b=(c,t)/\cu w g off sz w' c
theorem aoq(h:scanSorted ltInt d b i=U)(dQ:i<b)(hp:¬d[i]! <d[i-1]!):scanSorted ltInt d b (i+1)=U:=by
 rw[<-h];conv=>rhs;unfold scanSorted
 rw[if_pos (by simp[iZ,dQ];omega)]
theorem aos(h:scanSorted ltInt d b i=U)(hp:d[i]! <d[i-1]!):i=U:=by
 rw[<-h];unfold scanSorted;rw[if_neg (by simp[iZ,hp])]
theorem aor(h:scanSorted ltInt d b i=U)(dQ:¬i<b):i=U:=by
 rw[<-h];unfold scanSorted;rw[if_neg (by simp[dQ])]
theorem an9(h:shiftDown ltInt j d=c)(hj:1<=j)(hp:d[j]! <d[j-1]!):shiftDown ltInt (j-1) (swp d j (j-1))=c:=by
 obtain⟨k,rfl⟩:∃k,j=k+1:=⟨j-1,by omega⟩
 rw[<-h];conv=>rhs;unfold shiftDown
 rw[Cv]at hp⊢;rw[if_neg (by simp[iZ,hp])]
theorem aoa(h:shiftDown ltInt j d=c)(hp:¬d[j]! <d[j-1]!):d=c:=by
 rw[<-h]
 cases j with
 |zero=>rfl
 |succ k=>
  rw[Cv]at hp;unfold shiftDown;rw[if_pos (by simp[iZ];omega)]
theorem an_(h:shiftDown ltInt j d=c)(hj:j=0):d=c:=by
 subst hj;exact h
theorem aoZ(h:shiftUp ltInt b j d=c)(hj:j<b)(hp:d[j]! <d[j-1]!):shiftUp ltInt b (j+1) (swp d j (j-1))=c:=by
 rw[<-h];conv=>rhs;unfold shiftUp
 rw[if_pos hj,if_neg (by simp[iZ,hp])]
theorem ao1(h:shiftUp ltInt b j d=c)(hp:¬d[j]! <d[j-1]!):d=c:=by
 rw[<-h];unfold shiftUp;split
 ·rw[if_pos (by simp[iZ];omega)]
 ·rfl
theorem ao0(h:shiftUp ltInt b j d=c)(hj:¬j<b):d=c:=by
 rw[<-h];unfold shiftUp;rw[if_neg hj]
theorem amU(h:partialIns ltInt a b (5-j1) i1 c=R)(hj:¬j1<5):(c,false)=R:=by
 rw[<-h,show 5-j1=0 by omega];rfl
theorem amT(h:partialIns ltInt a b (5-j1) i1 c=R)(hj:j1<5)(hi:i=scanSorted ltInt c b i1):
 (i=b->(c,true)=R)/\(¬i=b->b-a<50->(c,false)=R)/\(¬i=b->¬b-a<50->partialIns ltInt a b (5-(j1+1)) i (fixUp ltInt b i (fixDown ltInt a i (swp c i (i-1))))=R):=by
 obtain⟨k,hk⟩:∃k,5-j1=k+1:=⟨5-j1-1,by omega⟩
 rw[hk,partialIns_succ,<-hi]at h;rw[show 5-(j1+1)=k by omega];refine⟨fun e=>?_,fun e e2=>?_,fun e e2=>?_⟩
 ·rw[if_pos e]at h;exact h
 ·rw[if_neg e,if_pos e2]at h;exact h
 ·rw[if_neg e,if_neg e2]at h;exact h
theorem am3(hd:d.size=n)(hR:iD w g off sz d)(lr:a+2<=b)(hb:b<=n)(hn:n<1000000000):
 Calls prog 154 #[.slice (some ⟨g,off,none⟩) n cap,.int .i64 (a:Int),.int .i64 (b:Int)] w (Zp w g off sz a b d):=by
 obtain⟨R,vo⟩:∃R,R=partialInsertionSort ltInt d a b:=⟨_,rfl⟩
 have ax:Hid (∀(t:Bool) (c:Array Int) (w1:World),(c,t)=R->cu w g off sz w1 c->Zp w g off sz a b d (.returned (.bool t)) w1):=fun t c w1 h1 h2=>⟨t,c,rfl,by rw[h1,vo],h2⟩
 have kL:Hid (partialIns ltInt a b 5 (a+1) d=R):=vo.symm;clear vo;have lG:=bL (cu.refl hR);clear hR;go_enter func154,ntmps154;go_wp2_with fail;go_loopw [7,8] (fun vi vj wr=>∃(i1 j1:Nat) (c:Array Int),vi=.int .i64 (i1:Int)/\vj=.int .i64 (j1:Int)/\a+1<=i1/\i1<=b/\j1<=5/\Hid (c.size=n)/\Hid (partialIns ltInt a b (5-j1) i1 c=R)/\Hid (cu w g off sz wr c)) (fun _ vj _=>5-(dM vj).toNat)
 case atStart=>exact⟨a+1,0,d,by go_num,rfl,by omega,by omega,by omega,hd,kL,lG⟩
 case round=>
  clear lG hd kL;obtain⟨i1,j1,c,rfl,rfl,oy,lu,rG,jl,kL,HW⟩:=hrel;obtain⟨U,hU⟩:∃U,U=scanSorted ltInt c b i1:=⟨_,rfl⟩
  have HU:=bL hU;clear hU;by_cases Qd:j1<5
  ·have hz5:(j1:Int)<5:=(by omega);go_upto_block 2 with fail
   go_cut [7] (fun sx wx=>∃i:Nat,sx=.int .i64 (i:Int)/\i1<=i/\i<=b/\Hid (i=U)/\Hid (cu w g off sz wx c))
   case first=>
    go_wp2_with fail
    go_loopw [7] (fun vi wr=>∃i:Nat,vi=.int .i64 (i:Int)/\i1<=i/\i<=b/\Hid (scanSorted ltInt c b i=U)/\Hid (cu w g off sz wr c)) (fun vi _=>b-(dM vi).toNat)
    case atStart=>exact⟨i1,rfl,Ab _,by omega,HU.o.symm,HW⟩
    case round=>
     obtain⟨i,rfl,cU,gg,HS,dV⟩:=hrel;clear HW;obtain⟨bj,bP⟩:=dV.o.row.iR;rw[jl.o]at bj bP;by_cases hc:i<b
     ·have hz:(i:Int)<(b:Int):=(by omega);go_wp2_with fail;go_big_quiet (first|(go_at_call 155;refine Ar (jz _ _ _)));go_wp2_with fail
      ·go_roundw
       case rel=>exact⟨i+1,by go_num,by omega,by omega,aoq HS.o hc (by first|omega|exact oJ (by assumption)),dV.o.drewN _⟩
       case measure=>simp[dM]<;>omega
      ·go_meet
       case rel=>exact⟨i,rfl,by omega,by omega,aos HS.o (by first|omega|exact oK (by assumption)),dV.o.drewN _⟩
     ·have hz:decide ((i:Int)<(b:Int))=false:=Bh (by omega);go_wp2_with fail;go_big_quiet (first|(go_at_call 155;refine Ar (jz _ _ _)));go_wp2_with fail;go_meet
      case rel=>exact⟨i,rfl,by omega,by omega,aor HS.o hc,dV.o.drewN _⟩
   case rest=>
    obtain⟨i,rfl,Qa,hi4,tZ,d_⟩:=hcut;clear HW;have DN:=bL (amT kL.o Qd (tZ.o.trans HU.o));clear kL tZ HU;by_cases dQ:i=b
    ·have hz:((i:Int)==(b:Int))=true:=(by simp[dQ]);have ai5:=bL dQ;clear dQ;go_wp2_with fail;go_ret;exact ax.o true c _ (DN.o.1 ai5.o) d_.o
    ·have hz:((i:Int)==(b:Int))=false:=by simp;omega
     by_cases h50:b<a+50
     ·have c_:(b:Int)-(a:Int)<50:=(by omega);go_wp2_with fail;go_ret;exact ax.o false c _ (DN.o.2.1 dQ (by omega)) d_.o
     ·have c_:¬((b:Int)-(a:Int)<50):=(by omega);have aP:=jl.o;obtain⟨bj,bP⟩:=d_.o.row.iR;rw[aP]at bj bP;obtain⟨⟨q0,q1⟩,q2⟩:=(d_.o.put (show i<c.size by omega) c[i-1]!).row.oj (show i-1<_ by simp;omega);have Ik:=bL (DN.o.2.2 dQ (by omega));go_wp2_with fail;go_region;have xZ:=bL ((d_.o.drew).swap (show i<c.size by omega) (show i-1<c.size by omega));obtain⟨c1,nI⟩:∃c1,c1=swp c i (i-1):=⟨_,rfl⟩
      rw[<-nI]at xZ Ik;have cU:Hid (c1.size=n):=by rw[nI];exact(size_swp _ _ _).trans aP
      obtain⟨c2,ji⟩:∃c2,c2=fixDown ltInt a i c1:=⟨_,rfl⟩
      rw[<-ji]at Ik;have iM:=bL ji;clear bj bP q1 q2 d_ DN nI ji;go_upto_if 61 with fail
      go_cut [7] (fun sx wx=>sx=.int .i64 (i:Int)/\Hid (c2.size=n)/\Hid (cu w g off sz wx c2))
      case first=>
       by_cases h2:a+2<=i
       ·have VQ:(2:Int)<=(i:Int)-(a:Int):=(by omega);go_wp2_with fail;have Ki:Hid (shiftDown ltInt (i-1) c1=c2):=by rw[iM.o];unfold fixDown;rw[if_pos (by omega)];exact rfl
        go_loopw [9] (fun vj wr=>∃(j:Nat) (e:Array Int),vj=.int .i64 (j:Int)/\j<i/\j<n/\Hid (e.size=n)/\Hid (shiftDown ltInt j e=c2)/\Hid (cu w g off sz wr e)) (fun vj _=>(dM vj).toNat)
        case atStart=>exact⟨i-1,c1,by congr 1;omega,by omega,by omega,cU,Ki,xZ⟩
        case round=>
         obtain⟨j,e,rfl,ajD,gg,kV,HS,dV⟩:=hrel;clear xZ Ki;by_cases hc:1<=j
         ·have hz:(1:Int)<=(j:Int):=(by omega);obtain⟨bj,bP⟩:=dV.o.row.iR;rw[kV.o]at bj bP;go_wp2_with fail;go_big_quiet (first|(go_at_call 155;refine Ar (jz _ _ _)));go_wp2_with fail
          ·go_meet
           case rel=>
            have E:=aoa HS.o (by first|omega|exact oJ (by assumption));rw[<-E];exact⟨rfl,kV,dV.o.drewN _⟩
          ·have uO:=bL (dV.o.drewN nq);have jI:∀t,t<n->(wr.drewN nq).cell? ⟨g,off+t,none⟩=some (.int .i32 e[t]!):=(bj);have jJ:∀t,t<n->(wr.drewN nq).frozen? ⟨g,off+t,none⟩=false:=bP
           clear bj bP dV;generalize wr.drewN nq=wr2 at jI jJ uO⊢;obtain⟨⟨q0,q1⟩,q2⟩:=(uO.o.put (show j<e.size by have:=kV.o;omega) e[j-1]!).row.oj (show j-1<_ by have:=kV.o;simp;omega);go_region;go_wp2_with fail;go_roundw
           case rel=>exact⟨j-1,_,by congr 1;omega,by omega,by omega,(size_swp _ _ _).trans kV.o,an9 HS.o hc (by first|omega|exact oK (by assumption)),(uO.o.drew).swap (show j<e.size by have:=kV.o;omega) (show j-1<e.size by have:=kV.o;omega)⟩
           case measure=>simp[dM]<;>omega
         ·have hz:¬((1:Int)<=(j:Int)):=(by omega);go_wp2_with fail;go_meet
          case rel=>
           have E:=an_ HS.o (by omega);rw[<-E];exact⟨rfl,kV,dV.o⟩
       ·have VQ:¬((2:Int)<=(i:Int)-(a:Int)):=(by omega);go_wp2_with fail;go_meet
        case rel=>
         have E:c2=c1:=by rw[iM.o];unfold fixDown;rw[if_neg (by omega)]
         rw[E];exact⟨rfl,cU,xZ⟩
      case rest=>
       obtain⟨rfl,gg,Y4⟩:=hcut;clear xZ;have xZ:=Y4;clear Y4 iM cU;obtain⟨c3,L_⟩:∃c3,c3=fixUp ltInt b i c2:=⟨_,rfl⟩
       rw[<-L_]at Ik;have tE:=bL L_;clear L_;by_cases h2:i+2<=b
       ·have VQ:(2:Int)<=(b:Int)-(i:Int):=(by omega);go_wp2_with fail;have Ki:Hid (shiftUp ltInt b (i+1) c2=c3):=by rw[tE.o];unfold fixUp;rw[if_pos (by omega)];exact rfl
        go_loopw [10] (fun vj wr=>∃(j:Nat) (e:Array Int),vj=.int .i64 (j:Int)/\j<=b/\i+1<=j/\Hid (e.size=n)/\Hid (shiftUp ltInt b j e=c3)/\Hid (cu w g off sz wr e)) (fun vj _=>(b-(dM vj).toNat))
        case atStart=>exact⟨i+1,c2,by go_num,by omega,by omega,gg,Ki,xZ⟩
        case round=>
         obtain⟨j,e,rfl,ajD,aqA,kV,HS,dV⟩:=hrel;clear xZ Ki;by_cases hc:j<b
         ·have hz:(j:Int)<(b:Int):=(by omega);obtain⟨bj,bP⟩:=dV.o.row.iR;rw[kV.o]at bj bP;go_wp2_with fail;go_big_quiet (first|(go_at_call 155;refine Ar (jz _ _ _)));go_wp2_with fail
          ·go_roundw
           case rel=>
            have E:=ao1 HS.o (by first|omega|exact oJ (by assumption));exact⟨i,j1+1,e,rfl,by go_num,by omega,by omega,by omega,kV,by rw[E];exact Ik,dV.o.drewN _⟩
           case measure=>simp[dM]<;>omega
          ·have uO:=bL (dV.o.drewN nq);have jI:∀t,t<n->(wr.drewN nq).cell? ⟨g,off+t,none⟩=some (.int .i32 e[t]!):=(bj);have jJ:∀t,t<n->(wr.drewN nq).frozen? ⟨g,off+t,none⟩=false:=bP
           clear bj bP dV;generalize wr.drewN nq=wr2 at jI jJ uO⊢;obtain⟨⟨q0,q1⟩,q2⟩:=(uO.o.put (show j<e.size by have:=kV.o;omega) e[j-1]!).row.oj (show j-1<_ by have:=kV.o;simp;omega);go_region;go_wp2_with fail;go_roundw
           case rel=>exact⟨j+1,_,by go_num,by omega,by omega,(size_swp _ _ _).trans kV.o,aoZ HS.o hc (by first|omega|exact oK (by assumption)),(uO.o.drew).swap (show j<e.size by have:=kV.o;omega) (show j-1<e.size by have:=kV.o;omega)⟩
           case measure=>simp[dM]<;>omega
         ·have hz:¬((j:Int)<(b:Int)):=(by omega);go_wp2_with fail;go_roundw
          case rel=>
           have E:=ao0 HS.o hc;exact⟨i,j1+1,e,rfl,by go_num,by omega,by omega,by omega,kV,by rw[E];exact Ik,dV.o⟩
          case measure=>simp[dM]<;>omega
       ·have VQ:¬((2:Int)<=(b:Int)-(i:Int)):=(by omega);go_wp2_with fail;go_roundw
        case rel=>
         have E:c3=c2:=by rw[tE.o];unfold fixUp;rw[if_neg (by omega)]
         exact⟨i,j1+1,c2,rfl,by go_num,by omega,by omega,by omega,gg,by rw[<-E];exact Ik,xZ⟩
        case measure=>simp[dM]<;>omega
  ·have hz5:¬((j1:Int)<5):=(by omega);go_wp2_with fail;go_ret;exact ax.o false c _ (amU kL.o Qd) HW.o
theorem cu.new(h:cu w g off sz w1 d)(o:Obj):cu w g off sz (w1.alloc o) d:=⟨h.row.kept ((aa.refl af w1).alloc o) (fun hx=>hx),h.kept.alloc o⟩
theorem cu.an0{s:Nat}(h:cu w g off sz w1 d)(hs:w.heap.size<=s)(hg:g≠s)(u:Value):cu w g off sz (w1.setCell ⟨s,j,none⟩ u) d:=
 ⟨h.row.kept ((aa.refl (fun i=>i=s) w1).setCell (p:=⟨s,j,none⟩) (Or.inl rfl) u) hg,h.kept.setCell (p:=⟨s,j,none⟩) (Or.inr hs) u⟩
theorem agn(hd:d.size=n)(hR:iD w g off sz d)(lr:a+12<=b)(hb:b<=n)(hn:n<1000000000):
 Calls prog 151 #[.slice (some ⟨g,off,none⟩) n cap,.int .i64 (a:Int),.int .i64 (b:Int)] w fun e w'=>e=.returned (.tuple #[])/\Zq w g off sz a b d w':=by
 obtain⟨M,hM⟩:∃M:Nat,M=1<<<bitsLen (b-a):=⟨_,rfl⟩
 have iG:1<=M:=by rw[hM,Nat.one_shiftLeft];exact Nat.two_pow_pos _
 have FD:M<=2*(b-a):=by rw[hM,Nat.one_shiftLeft];exact two_pow_bitsLen_le (by omega)
 have hNP:Hid (∀w,Calls prog 176 #[.int .i64 ((b:Int)-(a:Int))] w fun e w'=>e=.returned (.int .u64 (M:Int))/\w'=w):=by
  intro w;rw[show(b:Int)-(a:Int)=((b-a:Nat):Int) by omega,hM];exact alM (b-a) (by omega) w
 have wX:=hR.lt;have kU:g≠w.heap.size:=by omega
 have VC:w.heap.size≠g:=by omega
 have lG:=bL ((cu.refl hR).new (.cells #[.int .u64 ((b:Int)-(a:Int))] 265));have h8:(8:Int)<=(b:Int)-(a:Int):=by omega
 have YR:Hid (PermIn a b d d):=permIn_refl _ _ _;have HD:=bL hd;clear hM hR hd;go_enter func151,ntmps151;go_wp2_with fail;refine(hNP.o _).mono ?_;rintro e w' ⟨rfl,rfl⟩;go_wp2_with fail;go_loopw [9] (fun vi wr=>∃(i X:Nat) (c:Array Int),vi=.int .i64 (i:Int)/\a<=i/\i<=a+(b-a) /4*2+2/\X<18446744073709551616/\wr.cell? ⟨w.heap.size,0,none⟩=some (.int .u64 (X:Int))/\wr.frozen? ⟨w.heap.size,0,none⟩=false/\Hid (c.size=n)/\Hid (PermIn a b d c)/\Hid (cu w g off sz wr c)) (fun vi _=>a+(b-a) /4*2+2-(dM vi).toNat)
 case atStart=>
  refine⟨a+(b-a) /4*2-1,b-a,d,by congr 1;omega,by omega,by omega,by omega,?_,by simp,HD,YR,lG⟩;rw[show((b-a:Nat):Int)=(b:Int)-(a:Int) by omega];simp
 case round=>
  clear lG YR HD;obtain⟨i,X,c,rfl,oy,lu,hX,cX,fX,jl,HP,HW⟩:=hrel;by_cases hc:i<=a+(b-a) /4*2+1
  ·have hz:(i:Int)<=(a:Int)+((b:Int)-(a:Int)) /4*2+1:=(by omega);obtain⟨X',UD⟩:∃X':Nat,X'=xorNextN X:=⟨_,rfl⟩
   have lX':X'<18446744073709551616:=by rw[UD];exact xorNextN_lt X hX
   obtain⟨O,hO⟩:∃O:Nat,O=X'&&& (M-1):=⟨_,rfl⟩
   have lO:O<=M-1:=by rw[hO];exact Nat.and_le_right
   have apN:bits .and .u64 (X':Int) ((M:Int)-1)=(O:Int):=by
    rw[show((M:Int)-1)=((M-1:Nat):Int) by omega,bits_and_u64_nat _ _ lX' (by omega),hO]
   have F:=apJ w.heap.size X hX wr cX fX;rw[<-UD]at F;have F:=bL F;have oR:=bL ((HW.o.an0 (j:=0) (Ab _) kU (.int .u64 (X':Int))).drewN 3)
   have TB:((wr.setCell ⟨w.heap.size,0,none⟩ (.int .u64 (X':Int))).drewN 3).cell? ⟨w.heap.size,0,none⟩=some (.int .u64 (X':Int)):=by
    rw[World.cell?_drewN];exact World.cell?_setCell_same _ _ _ cX
   have fX1:((wr.setCell ⟨w.heap.size,0,none⟩ (.int .u64 (X':Int))).drewN 3).frozen? ⟨w.heap.size,0,none⟩=false:=by
    rw[World.frozen?_drewN];simpa using fX
   clear HW UD hO;generalize(wr.setCell ⟨w.heap.size,0,none⟩ (.int .u64 (X':Int))).drewN 3=w2 at F oR TB fX1;clear cX fX hX;go_wp2_with fail;refine(F.o).mono ?_;rintro e w' ⟨rfl,rfl⟩;clear F;go_upto_if 43 with fail
   go_cut [10] (fun sx wx=>∃o:Nat,sx=.int .i64 (o:Int)/\o<b-a/\wx=w')
   case first=>
    by_cases hL:b-a<=O
    ·have hzL:(b:Int)-(a:Int)<=(O:Int):=(by omega);go_wp2_with fail;go_meet
     case rel=>exact⟨O-(b-a),by congr 1;omega,by omega,rfl⟩
    ·have hzL:¬((b:Int)-(a:Int)<=(O:Int)):=(by omega);go_wp2_with fail;go_meet
     case rel=>exact⟨O,rfl,by omega,rfl⟩
   case rest=>
    obtain⟨o,rfl,ho,rfl⟩:=hcut;obtain⟨bj,bP⟩:=oR.o.row.iR;rw[jl.o]at bj bP;obtain⟨⟨q0,q1⟩,q2⟩:=(oR.o.put (show i<c.size by have:=jl.o;omega) c[a+o]!).row.oj (show a+o<_ by have:=jl.o;simp;omega);go_wp2_with fail;go_region;have d_:=bL ((oR.o.drew).swap (show i<c.size by have:=jl.o;omega) (show a+o<c.size by have:=jl.o;omega));have Ii:Hid (PermIn a b d (swp c i (a+o))):=permIn_trans _ _ _ _ _ HP.o (swp_permIn _ _ _ _ _ oy (by omega) (by omega) (by omega) (by have:=jl.o;omega));have kk:=(((aa.refl (fun i=>i=g) wc).drew).setCell (p:=⟨g,off+i,none⟩) (Or.inl rfl) (.int .i32 c[a+o]!)).setCell (p:=⟨g,off+(a+o),none⟩) (Or.inl rfl) (.int .i32 c[i]!);have iX:=Bk _ _ TB;have XV:=bL (And.intro ((kk.cell (p:=⟨w.heap.size,0,none⟩) iX VC).trans TB) ((kk.frozen (p:=⟨w.heap.size,0,none⟩) iX VC).trans fX1));clear bj bP q1 q2 kk;go_wp2_with fail;go_roundw
    case rel=>
     exact⟨i+1,X',_,by go_num,by omega,by omega,lX',XV.o.1,XV.o.2,(size_swp _ _ _).trans jl.o,Ii,d_⟩
    case measure=>simp[dM]<;>omega
  ·have hz:¬((i:Int)<=(a:Int)+((b:Int)-(a:Int)) /4*2+1):=(by omega);go_wp2_with fail;go_end0;exact⟨rfl,c,HP.o,HW.o⟩
def Tf(w:World)(g off sz a b:Nat)(d:Array Int)(w':World):Prop:=∃c:Array Int,PermIn a b d c/\SortedIn ltInt a b c/\cu w g off sz w' c
def oQ(a b:Nat)(d:Array Int)(a1 b1:Nat)(c:Array Int):Prop:=Below ltInt a1 b1 c/\∀R,PermIn a1 b1 c R->SortedIn ltInt a1 b1 R->PermIn a b d R/\SortedIn ltInt a b R
theorem oQ.ve{R:Array Int}(h:oQ a b d a1 b1 c)(hR:PermIn a1 b1 c R/\SortedIn ltInt a1 b1 R)(hw:cu w g off sz w1 R):Tf w g off sz a b d w1:=
 ⟨R,(h.2 R hR.1 hR.2).1,(h.2 R hR.1 hR.2).2,hw⟩
theorem oQ.perm(h:oQ a b d a1 b1 c)(hb:b1<=c.size)(hp:PermIn a1 b1 c c'):oQ a b d a1 b1 c':=
 ⟨h.1.perm hb hp,fun R h1 h2=>h.2 R (permIn_trans _ _ _ _ _ hp h1) h2⟩
theorem oQ.eq(h:oQ a b d a1 b1 c)(hb:b1<=c.size)(hp:a1<=p/\p<b1)(h0:0<a1)(hl:¬c[a1-1]! <c[p]!)(hx:partitionEqual ltInt c a1 b1 p=(m,c')):c'.size=c.size/\oQ a b d m b1 c':=by
 obtain⟨_,_,h3,h4,h5⟩:=round_eq swo_ltInt (partitionEqual_holds ltInt) h0 hp.1 hp.2 hb h.1 (by rw[iZ];exact Bh hl) hx;exact⟨h3,h4,fun R r1 r2=>h.2 R (h5 R r1 r2).1 (h5 R r1 r2).2⟩
theorem oQ.part{t:Bool}(h:oQ a b d a1 b1 c)(hb:b1<=c.size)(hp:a1<=p/\p<b1)(hx:partition ltInt c a1 b1 p=(m,t,c')):
 c'.size=c.size/\Below ltInt a1 m c'/\Below ltInt (m+1) b1 c'/\(∀L,PermIn a1 m c' L->SortedIn ltInt a1 m L->oQ a b d (m+1) b1 L)/\∀L,PermIn (m+1) b1 c' L->SortedIn ltInt (m+1) b1 L->oQ a b d a1 m L:=by
 obtain⟨_,_,h3,h4,h5,h6,h7⟩:=round_part swo_ltInt (partition_holds ltInt) hp.1 hp.2 hb h.1 hx;exact⟨h3,h4,h5,fun L l1 l2=>⟨(h6 L l1 l2).1,fun R r1 r2=>h.2 R ((h6 L l1 l2).2 R r1 r2).1 ((h6 L l1 l2).2 R r1 r2).2⟩,fun L l1 l2=>⟨(h7 L l1 l2).1,fun R r1 r2=>h.2 R ((h7 L l1 l2).2 R r1 r2).1 ((h7 L l1 l2).2 R r1 r2).2⟩⟩
theorem am5(hd:d.size=n)(hR:iD w g off sz d)(lr:a+12<=b)(hb:b<=n)(hn:n<4611686018427387904):
 Calls prog 152 #[.slice (some ⟨g,off,none⟩) n cap,.int .i64 (a:Int),.int .i64 (b:Int)] w fun e w'=>∃(p:Nat) (h:Int),e=.returned (.tuple #[.int .i64 (p:Int),.int .i64 h])/\(a<=p/\p<b)/\cu w g off sz w' d:=by
 have hRo:=hR.ok;rw[hd]at hRo;refine(am4 hRo lr hb hn).mono ?_;rintro e w' ⟨p,h,h1,h2,h3⟩;exact⟨p,h,h1,h2,hR.kept h3 (fun hx=>hx),h3.mono (fun _ hx=>hx.elim)⟩
theorem amO(hn:n<1000000000):∀(N:Nat) (w:World) (d:Array Int) (a b lim:Nat),b-a<=N->d.size=n->Below ltInt a b d->iD w g off sz d->a<=b->b<=n->lim<=100->
 Calls prog 123 #[.slice (some ⟨g,off,none⟩) n cap,.int .i64 (a:Int),.int .i64 (b:Int),.int .i64 (lim:Int)] w fun e w'=>e=.returned (.tuple #[])/\Tf w g off sz a b d w':=by
 intro N;induction N using Nat.strongRecOn with
 |ind N IH=>
 intro w d a b lim hN hd Uj hR lr hb abJ;have YC:=bL IH;have lG:=bL (cu.refl hR);have Yy:Hid (oQ a b d a b d):=⟨Uj,fun R h1 h2=>⟨h1,h2⟩⟩;have HD:=bL hd;clear IH hR hd Uj;go_enter func123,ntmps123;go_wp2_with fail;go_loopw [1,2,3,8,9] (fun va vb vl vwb vwp wr=>∃(a1 b1 l1:Nat) (wb wp:Bool) (c:Array Int),va=.int .i64 (a1:Int)/\vb=.int .i64 (b1:Int)/\vl=.int .i64 (l1:Int)/\vwb=.bool wb/\vwp=.bool wp/\a1<=b1/\b1<=n/\b1-a1<=N/\l1<=100/\Hid (c.size=n)/\Hid (oQ a b d a1 b1 c)/\Hid (cu w g off sz wr c)) (fun va vb _ _ _ _=>(dM vb-dM va).toNat)
 case atStart=>exact⟨a,b,lim,true,true,d,rfl,rfl,rfl,rfl,rfl,lr,hb,hN,abJ,HD,Yy,lG⟩
 case round=>
  clear lG lr hb hN abJ HD Yy;obtain⟨a1,b1,l1,wb,wp,c,rfl,rfl,rfl,rfl,rfl,lr,hb,hN,hl,HS,HG,HW⟩:=hrel;by_cases h12:b1<=a1+12
  ·have hz:(b1:Int)-(a1:Int)<=12:=(by omega);have F:=bL (aj9 (cap:=cap) HS.o HW.o.row lr hb (by omega));go_wp2_with fail;refine(F.o).mono ?_;rintro e w1 ⟨rfl,P1⟩;go_wp2_with fail;(try simp only[Exit.inBlock,Exit.then]);refine Bi (Dj rfl _ _ _) rfl ?_;exact⟨rfl,HG.o.ve (insertionSort_holds swo_ltInt c a1 b1 lr (by have:=HS.o;omega)) (HW.o.trans P1)⟩
  ·have hz:¬((b1:Int)-(a1:Int)<=12):=(by omega);by_cases Vf:l1=0
   ·have dm:((l1:Int)==0)=true:=(by simp[Vf]);have F:=bL (aiS (cap:=cap) HS.o HW.o.row (show a1<b1 by omega) hb hn);go_wp2_with fail;refine(F.o).mono ?_;rintro e w1 ⟨rfl,P1⟩;go_wp2_with fail;(try simp only[Exit.inBlock,Exit.then]);refine Bi (Dj rfl _ _ _) rfl ?_;exact⟨rfl,HG.o.ve (heapSort_holds swo_ltInt c a1 b1 lr (by have:=HS.o;omega)) (HW.o.trans P1)⟩
   ·have dm:((l1:Int)==0)=false:=by simp;omega
    go_upto_if 35 with fail
    go_cut [3] (fun sx wx=>∃(l2:Nat) (c1:Array Int),sx=.int .i64 (l2:Int)/\l2<=100/\Hid (c1.size=n)/\Hid (oQ a b d a1 b1 c1)/\Hid (cu w g off sz wx c1))
    case first=>
     cases wb with
     |true=>
      go_wp2_with fail
      go_meet
      case rel=>exact⟨l1,c,rfl,hl,HS,HG,HW⟩
     |false=>
      have F:=bL (agn (cap:=cap) HS.o HW.o.row (show a1+12<=b1 by omega) hb hn);go_wp2_with fail;refine(F.o).mono ?_;rintro e w1 ⟨rfl,c1,PP,P1⟩;have oR:=bL (HW.o.trans P1);have uM:Hid (c1.size=n):=PP.1.trans HS.o;have Kn:=bL (HG.o.perm (by have:=HS.o;omega) PP);clear P1 F PP;go_wp2_with fail;go_meet
      case rel=>exact⟨l1-1,c1,by congr 1;omega,by omega,uM,Kn,oR⟩
    case rest=>
     obtain⟨l2,c1,rfl,AU,uM,Kn,oR⟩:=hcut;clear HW Vf dm hl HS HG;have F:=bL (am5 (cap:=cap) uM.o oR.o.row (show a1+12<=b1 by omega) hb (by omega));go_wp2_with fail;refine(F.o).mono ?_;rintro e w2 ⟨p,h,rfl,hp,P2⟩;have d_:=bL (oR.o.trans P2);clear P2 F oR;go_upto_if 50 with fail
     go_cut [11,12] (fun vX tx wx=>∃(p2:Nat) (h2:Int) (c2:Array Int),vX=.int .i64 (p2:Int)/\tx=.int .i64 h2/\(a1<=p2/\p2<b1)/\Hid (c2.size=n)/\Hid (oQ a b d a1 b1 c2)/\Hid (cu w g off sz wx c2))
     case first=>
      by_cases h2:h=2
      ·have c_:(h==2)=true:=(by simp[h2]);have F:=bL (anG (cap:=cap) uM.o d_.o.row (show a1<b1 by omega) hb (by omega));clear h2;go_wp2_with fail;refine(F.o).mono ?_;rintro e w3 ⟨rfl,c2,PP,P3⟩;have ft:=bL (d_.o.trans P3);have gX:Hid (c2.size=n):=PP.1.trans uM.o;have nW:=bL (Kn.o.perm (by have:=uM.o;omega) PP);clear P3 F PP;go_wp2_with fail;go_meet
       case rel=>exact⟨b1-1-(p-a1),1,c2,by congr 1;omega,rfl,by omega,gX,nW,ft⟩
      ·have c_:(h==2)=false:=(by simp[h2]);clear h2;go_wp2_with fail;go_meet
       case rel=>exact⟨p,h,c1,rfl,rfl,hp,uM,Kn,d_⟩
     case rest=>
      obtain⟨p2,h2,c2,rfl,rfl,qD,gX,nW,ft⟩:=hcut;clear d_ hp uM Kn;go_upto_region 15 with fail
      go_cut [68] (fun sx wx=>∃c:Nat,sx=.bool (c==1)/\Hid (cu w g off sz wx c2))
      case first=>
       cases wb with
       |false=>
        go_wp2_with fail
        go_meet
        case rel=>exact⟨0,rfl,ft⟩
       |true=>
        cases wp with
        |false=>
         go_wp2_with fail
         go_meet
         case rel=>exact⟨0,rfl,ft⟩
        |true=>
         by_cases h1:h2=1
         ·have dp:(h2==1)=true:=(by simp[h1]);clear h1;go_wp2_with fail;go_meet
          case rel=>exact⟨1,rfl,ft⟩
         ·have dp:(h2==1)=false:=(by simp[h1]);clear h1;go_wp2_with fail;go_meet
          case rel=>exact⟨0,rfl,ft⟩
      case rest=>
       obtain⟨cz,rfl,oS⟩:=hcut;clear ft;go_upto_if 68 with fail
       go_cut [11] (fun sx wx=>∃c3:Array Int,sx=.int .i64 (p2:Int)/\Hid (c3.size=n)/\Hid (oQ a b d a1 b1 c3)/\Hid (cu w g off sz wx c3))
       case first=>
        by_cases hc:cz=1
        ·have VT:(cz==1)=true:=(by simp[hc]);have F:=bL (am3 (cap:=cap) gX.o oS.o.row (show a1+2<=b1 by omega) hb hn);clear hc;go_wp2_with fail;refine(F.o).mono ?_;rintro e w5 ⟨t,c3,rfl,E5,P5⟩;have DQ:=bL (oS.o.trans P5);have xT:=bL (partialInsertionSort_holds swo_ltInt c2 a1 b1 (by omega) (by have:=gX.o;omega) nW.o.1);rw[E5]at xT;have xW:Hid (c3.size=n):=xT.o.1.1.trans gX.o;have DG:=bL (nW.o.perm (by have:=gX.o;omega) xT.o.1);clear P5 F E5
         cases t with
         |true=>
          go_wp2_with fail
          (try simp only[Exit.inBlock,Exit.then]);refine Bi (Dj rfl _ _ _) rfl ?_
          exact⟨rfl,nW.o.ve ⟨xT.o.1,xT.o.2 (by first|rfl|trivial)⟩ DQ.o⟩
         |false=>
          go_wp2_with fail
          go_meet
          case rel=>exact⟨c3,rfl,xW,DG,DQ⟩
        ·have VT:(cz==1)=false:=(by simp[hc]);clear hc;go_wp2_with fail;go_meet
         case rel=>exact⟨c2,rfl,gX,nW,oS⟩
       case rest=>
        obtain⟨c3,rfl,xW,DG,DQ⟩:=hcut;clear oS gX nW;go_upto_region 17 with fail
        go_cut [87] (fun sx wx=>∃c2:Nat,sx=.bool (c2==1)/\Hid (c2=1->0<a1/\c3[p2]! <=c3[a1-1]!)/\Hid (cu w g off sz wx c3))
        case first=>
         obtain⟨bj,bP⟩:=DQ.o.row.iR;rw[xW.o]at bj bP;by_cases ha0:0<a1
         ·have hza:(0:Int)<(a1:Int):=(by omega);go_big_quiet (first|(go_at_call 155;refine Ar (jz _ _ _)));go_wp2_with fail;go_meet
          case rel=>exact⟨if c3[a1-1]! <c3[p2]! then 0 else 1,by(by_cases hG:c3[a1-1]! <c3[p2]!)<;>simp only[hG]<;>rfl,fun hq=>⟨ha0,Int.not_lt.1 (fun hG=>by rw[if_pos hG]at hq;cases hq)⟩,DQ.o.drewN _⟩
         ·have hza:decide ((0:Int)<(a1:Int))=false:=Bh (by omega);go_big_quiet (first|(go_at_call 155;refine Ar (jz _ _ _)));go_wp2_with fail;go_meet
          case rel=>exact⟨0,rfl,fun hq=>(by cases hq),DQ.o.drewN _⟩
        case rest=>
         obtain⟨c2,rfl,iM,Ip⟩:=hcut;clear DQ;by_cases ji:c2=1
         ·have VT:(c2==1)=true:=(by simp[ji]);have F:=bL (amR (cap:=cap) xW.o Ip.o.row (show a1+2<=b1 by omega) hb hn qD);have HQ:=bL (iM.o ji);clear ji;go_wp2_with fail;refine(F.o).mono ?_;rintro e w7 ⟨m,rfl,hm,c4,E7,P7⟩;have zA:=bL (Ip.o.trans P7);have G7:=bL (DG.o.eq (by have:=xW.o;omega) qD HQ.o.1 (Int.not_lt.2 HQ.o.2) E7);have Im:Hid (c4.size=n):=G7.o.1.trans xW.o;clear P7 F Ip E7;go_wp2_with fail;go_roundw
          case rel=>exact⟨m,b1,l2,wb,wp,c4,rfl,rfl,rfl,rfl,rfl,by omega,hb,by omega,AU,Im,G7.o.2,zA⟩
          case measure=>simp[dM]<;>omega
         ·have VT:(c2==1)=false:=(by simp[ji]);have F:=bL (amG (cap:=cap) xW.o Ip.o.row (show a1+2<=b1 by omega) hb hn qD);clear ji;go_wp2_with fail;refine(F.o).mono ?_;rintro e w7 ⟨m,t,rfl,hm,c4,E7,P7⟩;have zA:=bL (Ip.o.trans P7);have G7:=bL (DG.o.part (by have:=xW.o;omega) qD E7);have Im:Hid (c4.size=n):=G7.o.1.trans xW.o;clear P7 F Ip E7;have FL:=bL (YC.o (m-a1) (by omega) w7 c4 a1 m l2 (Ab _) Im.o G7.o.2.1 zA.o.row (by omega) (by omega) AU);have FR:=YC.o (b1-(m+1)) (by omega) w7 c4 (m+1) b1 l2 (Ab _) Im.o G7.o.2.2.1 zA.o.row (by omega) (by omega) AU;rw[show((m+1:Nat):Int)=(m:Int)+1 by omega]at FR;have FR:=bL FR;by_cases hlr:m-a1<b1-m
          ·have hzl:(m:Int)-(a1:Int)<(b1:Int)-(m:Int):=(by omega);go_wp2_with fail;refine(FL.o).mono ?_;rintro e w8 ⟨rfl,c5,PP,SS,P8⟩;have SP:=bL (zA.o.trans P8);have xX:Hid (c5.size=n):=PP.1.trans Im.o;have G8:=bL (G7.o.2.2.2.1 c5 PP SS);clear P8 FL FR zA PP SS;go_wp2_with fail;go_roundw
           case rel=>exact⟨m+1,b1,l2,_,t,c5,by go_num,rfl,rfl,rfl,rfl,by omega,hb,by omega,AU,xX,G8,SP⟩
           case measure=>simp[dM]<;>omega
          ·have hzl:¬((m:Int)-(a1:Int)<(b1:Int)-(m:Int)):=(by omega);go_wp2_with fail;refine(FR.o).mono ?_;rintro e w8 ⟨rfl,c5,PP,SS,P8⟩;have SP:=bL (zA.o.trans P8);have xX:Hid (c5.size=n):=PP.1.trans Im.o;have G8:=bL (G7.o.2.2.2.2 c5 PP SS);clear P8 FL FR zA PP SS;go_wp2_with fail;go_roundw
           case rel=>exact⟨a1,m,l2,_,t,c5,rfl,rfl,rfl,rfl,rfl,by omega,by omega,by omega,AU,xX,G8,SP⟩
           case measure=>simp[dM]<;>omega
structure qX(d:Array Int)(m k:Nat)(c:Array Int):Prop where
 rest:∀t,m<=t+1->c[t]! =d[t]!
 low:∀t,t<k->c[t]! <=d[m-1]!
 zJ:∀i j,i<j->j<k->c[i]! <c[j]!
 sub:∀t,t<k->∃s,s<d.size/\c[t]! =d[s]!
 all:∀s,s<m->∃t,t<k/\c[t]! =d[s]!
theorem RF(h:SortedIn ltInt 0 n d)(cy:i<=j)(hj:j<n):d[i]! <=d[j]! :=by
 by_cases e:i=j
 ·rw[e];exact Ce _
 ·have:=h i j (Ao _) (by omega) hj;rw[iZ,A7]at this;omega
theorem aeT(h:SortedIn ltInt 0 n d)(hk:k<=n)(az:∀i,1<=i->i<k->d[i]! ≠d[i-1]!)(cy:i<j)(hj:j<k):d[i]! <d[j]! :=by
 have h1:=RF h (show i<=j-1 by omega) (show j-1<n by omega);have h2:=RF h (show j-1<=j by omega) (show j<n by omega);have h3:=az j (by omega) hj;omega
theorem qX.start(az:∀i,1<=i->i<k->d[i]! ≠d[i-1]!)(h:SortedIn ltInt 0 n d)(hd:d.size=n)(h1:1<=k)(hk:k<n)(he:d[k]! =d[k-1]!):qX d (k+1) k d:=
 ⟨fun _ _=>rfl,fun t ht=>RF h (by omega) (by omega),fun i j cy hj=>aeT h (by omega) az cy hj,fun t ht=>⟨t,by omega,rfl⟩,fun s hs=>by
   by_cases e:s=k
   ·exact⟨k-1,by omega,by rw[e,he]⟩
   ·exact⟨s,by omega,rfl⟩⟩
theorem qX.y8(hI:qX d m k c)(h:SortedIn ltInt 0 n d)(hd:d.size=n)(h1:1<=m)(hm:m<n)(hk:k+1<=m)(he:c[m]! =c[m-1]!):qX d (m+1) k c:=by
 have e1:c[m]! =d[m]! :=hI.rest m (by omega);have e2:c[m-1]! =d[m-1]! :=hI.rest (m-1) (by omega);refine⟨fun t ht=>hI.rest t (by omega),fun t ht=>?_,hI.zJ,hI.sub,fun s hs=>?_⟩
 ·have:=hI.low t ht;rw[Cv];omega
 ·by_cases e:s=m
  ·obtain⟨t,ht,hx⟩:=hI.all (m-1) (by omega);exact⟨t,ht,by rw[e];omega⟩
  ·exact hI.all s (by omega)
theorem qX.next(hI:qX d m k c)(az:c[m]! ≠c[m-1]!)(h:SortedIn ltInt 0 n d)(hd:d.size=n)(hc:c.size=d.size)(hm:m<n)(hk:k+1<=m):qX d (m+1) (k+1) (c.setIfInBounds k c[m]!):=by
 have e1:c[m]! =d[m]! :=hI.rest m (by omega);have g1:∀t,t≠k->(c.setIfInBounds k c[m]!)[t]! =c[t]! :=fun t ht=>aa0 _ _ _ _ (fun e=>ht e.symm)
 have g2:(c.setIfInBounds k c[m]!)[k]! =d[m]! :=by rw[aa1 _ _ _ (by omega)];exact e1
 have up0:d[m-1]! <=d[m]! :=RF h (by omega) hm;have e3:c[m-1]! =d[m-1]! :=hI.rest (m-1) (by omega);have up:d[m-1]! <d[m]! :=by omega
 refine⟨fun t ht=>?_,fun t ht=>?_,fun i j cy hj=>?_,fun t ht=>?_,fun s hs=>?_⟩
 ·rw[g1 t (by omega)];exact hI.rest t (by omega)
 ·rw[Cv];by_cases e:t=k
  ·rw[e,g2];exact Ce _
  ·rw[g1 t e];have:=hI.low t (by omega);omega
 ·rw[g1 i (by omega)];by_cases e:j=k
  ·rw[e,g2];have:=hI.low i (by omega);omega
  ·rw[g1 j e];exact hI.zJ i j cy (by omega)
 ·by_cases e:t=k
  ·rw[e,g2];exact⟨m,by omega,rfl⟩
  ·rw[g1 t e];exact hI.sub t (by omega)
 ·by_cases e:s=m
  ·exact⟨k,by omega,by rw[e];exact g2⟩
  ·obtain⟨t,ht,hx⟩:=hI.all s (by omega);exact⟨t,by omega,by rw[g1 t (by omega)];exact hx⟩
def tB(w:World)(g cap:Nat)(d:Array Int):Ending->World->Prop:=fun e w'=>∃cl:List Int,e=.returned (.slice (some ⟨g,0,none⟩) cl.length cap)/\(∀i,(h:i<cl.length)->w'.cell? ⟨g,i,none⟩=some (.int .i32 cl[i]))/\cl.Pairwise (· < ·)/\(∀s,s<d.size->d[s]! ∈cl)/\(∀x∈cl,∃s,s<d.size/\x=d[s]!)/\aa (fun i=>i=g) w w'
theorem tB.Nf(hk:k<=c.size)(hkd:k<=d.size)(rD:∀t,t<k->w1.cell? ⟨g,t,none⟩=some (.int .i32 c[t]!))(FH:∀i j,i<j->j<k->c[i]! <c[j]!)(Jm:∀t,t<k->∃s,s<d.size/\c[t]! =d[s]!)(nF:∀s,s<d.size->∃t,t<k/\c[t]! =d[s]!)(hK:aa (fun i=>i=g) w w1):tB w g cap d (.returned (.slice (some ⟨g,0,none⟩) k cap)) w1:=by
 have hl:((List.range k).map fun t=>c[t]!).length=k:=by simp
 refine⟨(List.range k).map fun t=>c[t]!,by rw[hl],fun i hi=>?_,?_,fun s hs=>?_,fun x hx=>?_,hK⟩
 ·rw[hl]at hi;rw[rD i hi];simp
 ·rw[Cd];intro i j hi hj cy;rw[hl]at hi hj;simp only[List.getElem_map,List.getElem_range];exact FH i j cy hj
 ·obtain⟨t,ht,hx⟩:=nF s hs;exact Bg.2 ⟨t,Eu.2 ht,hx⟩
 ·obtain⟨t,ht,rfl⟩:=Bg.1 hx;exact Jm t (Eu.1 ht)
theorem tB.all(az:∀i,1<=i->i<n->d[i]! ≠d[i-1]!)(hd:d.size=n)(hs:SortedIn ltInt 0 n d)(h:cu w g 0 sz w1 d):tB w g cap d (.returned (.slice (some ⟨g,0,none⟩) n cap)) w1:=
 tB.Nf (c:=d) (by omega) (by omega) (fun t ht=>by have:=h.row.iR.1 t (by omega);rw[Bf]at this;exact this) (fun i j cy hj=>aeT hs (Ab _) az cy hj) (fun t ht=>⟨t,by omega,rfl⟩) (fun s hs=>⟨s,by omega,rfl⟩) h.kept
theorem aez:∀(vs:List Value) (w1:World) (o t:Nat),t<o->(w1.setCells g o vs).cell? ⟨g,t,none⟩=w1.cell? ⟨g,t,none⟩
 | [],_,_,_,_=>rfl
 |v::vs,w1,o,t,h=>by
  refine(aez vs (w1.setCell ⟨g,o,none⟩ v) (o+1) t (by omega)).trans ?_;exact World.cell?_setCell_other _ _ _ _ (by intro e;simp only[Addr.mk.injEq]at e;omega)
theorem tB.of{vs:List Value}(hd:d.size=n)(hc:c.size=n)(hk:k<=n)(hI:qX d m k c)(hm:m=n)(h:cu w g 0 sz w1 c):tB w g cap d (.returned (.slice (some ⟨g,0,none⟩) k cap)) (w1.setCells g k vs):=
 tB.Nf (c:=c) (by omega) (by omega) (fun t ht=>(aez vs w1 k t ht).trans (by have:=h.row.iR.1 t (by omega);rw[Bf]at this;exact this)) hI.zJ hI.sub (fun s hs=>hI.all s (by omega)) (anY h.kept vs k)
theorem aof(hd:d.size=n)(hR:iD w g 0 sz d)(hn:n<1000000000):
 Calls prog 99 #[.slice (some ⟨g,0,none⟩) n cap] w fun e w'=>e=.returned (.tuple #[])/\Tf w g 0 sz 0 n d w':=by
 have F:=bL (acB n hn w);have hu:IntKind.u64.wrap (n:Int)=n:=by simp[IntKind.wrap,IntKind.bits,IntKind.signed];omega
 have HR:=bL hR;clear hR;go_enter func99,ntmps99;go_wp2_with fail;refine(F.o).mono ?_;rintro e w1 ⟨l,rfl,hl,rfl⟩;have F2:=bL (amO (cap:=cap) hn n w1 d 0 n l (by omega) hd (Or.inl rfl) HR.o (by omega) (Ab _) hl);go_wp2_with fail;refine(F2.o).mono ?_;rintro e w2 ⟨rfl,P⟩;go_wp2_with fail;go_end0;exact⟨rfl,P⟩
theorem ag4(hd:d.size=n)(VD:SortedIn ltInt 0 n d)(hR:iD w g 0 sz d)(hn:n<1000000000)(yq:n<=cap/\cap<=maxLen):
 Calls prog 100 #[.slice (some ⟨g,0,none⟩) n cap] w (tB w g cap d):=by
 have lG:=bL (cu.refl hR);have KI:=bL VD;have HD:=bL hd;clear hR VD hd;by_cases h2:n<2
 ·have hz:(n:Int)<2:=by omega
  go_enter func100,ntmps100
  go_wp2_with fail
  go_ret
  exact tB.all (fun i h1 h2=>by omega) HD.o KI.o lG.o
 ·have hz:¬((n:Int)<2):=by omega
  go_enter func100,ntmps100
  go_wp2_with fail
  go_loopw [3] (fun vk wr=>∃k:Nat,vk=.int .i64 (k:Int)/\1<=k/\k<=n/\Hid (∀i,1<=i->i<k->d[i]! ≠d[i-1]!)/\Hid (cu w g 0 sz wr d)) (fun vk _=>n-(dM vk).toNat)
  case atStart=>exact⟨1,rfl,by omega,by omega,fun i h1 h2=>by omega,lG⟩
  case round=>
   clear lG;obtain⟨k,rfl,aU,aN,SF,HW⟩:=hrel;by_cases hk:k<n
   ·have hzk:(k:Int)<(n:Int):=(by omega);obtain⟨FX,I8⟩:=HW.o.row.iR;rw[HD.o]at FX I8;obtain⟨G,vn⟩:∃G:Nat->Int,∀t,G t=d[t]! :=⟨fun t=>d[t]!,fun _=>rfl⟩
    have pH:=bL vn;have bj:∀t,t<n->wr.cell? ⟨g,t,none⟩=some (.int .i32 (G t)):=fun t ht=>by have:=FX t ht;rw[vn];simpa using this
    clear FX I8 vn;have d0:=bj k hk;have d1:=bj (k-1) (by omega);go_wp2_with fail;go_quiet (first|(go_at_call 155;refine Ar (jz _ _ _)));have oR:=bL (HW.o.drewN nq);clear bj d0 d1 HW;generalize wr.drewN nq=wr1 at oR⊢;by_cases hG:G k=G (k-1)
    ·have VR:(G k==G (k-1))=true:=(by simp[hG]);have hkc:(k:Int)<=(n:Int):=(by omega);have aqe:k<=cap:=(by omega);have Ia:Hid (qX d (k+1) k d):=qX.start SF.o KI.o HD.o aU hk (by have h1:=pH.o k;have h2:=pH.o (k-1);omega);clear hG;go_wp2_with fail;go_loopw [3,5] (fun vk XJ wr=>∃(k3 k2:Nat) (c:Array Int),vk=.int .i64 (k3:Int)/\XJ=.int .i64 (k2:Int)/\1<=k2/\k2<=n-k/\k<=k3/\k3+1<=k+k2/\Hid (c.size=n)/\Hid (qX d (k+k2) k3 c)/\Hid (cu w g 0 sz wr c)) (fun _ XJ _=>n-(dM XJ).toNat)
     case atStart=>exact⟨k,1,d,rfl,rfl,by omega,by omega,by omega,by omega,HD,Ia,oR⟩
     case round=>
      obtain⟨k3,k2,c,rfl,rfl,cU,gg,rL,rM,oC,HC,dV⟩:=hrel;clear oR Ia;obtain⟨FX,I8⟩:=dV.o.row.iR;rw[oC.o]at FX I8;obtain⟨G2,Ut⟩:∃G2:Nat->Int,∀t,G2 t=c[t]! :=⟨fun t=>c[t]!,fun _=>rfl⟩
      have nW:=bL Ut;have bj:∀t,t<n->wr.cell? ⟨g,t,none⟩=some (.int .i32 (G2 t)):=fun t ht=>by have:=FX t ht;rw[Ut];simpa using this
      have bP:∀t,t<n->wr.frozen? ⟨g,t,none⟩=false:=fun t ht=>by have:=I8 t ht;simpa using this
      clear FX I8 Ut;by_cases aqc:k2<n-k
      ·have c_:(k2:Int)<((n-k:Nat):Int):=(by omega);have d0:=bj (k+k2) (by omega);have d1:=bj (k+(k2-1)) (by omega);go_wp2_with fail;go_quiet (first|(go_at_call 155;refine Ar (jz _ _ _)));have uO:=bL (dV.o.drewN nq);have c3:(wr.drewN nq).cell? ⟨g,k3,none⟩=some (.int .i32 (G2 k3)):=bj k3 (by omega);have f3:(wr.drewN nq).frozen? ⟨g,k3,none⟩=false:=bP k3 (by omega);have d2:(wr.drewN nq).cell? ⟨g,k+k2,none⟩=some (.int .i32 (G2 (k+k2))):=d0;clear bj bP d0 d1 dV;generalize wr.drewN nq=wr2 at uO c3 f3 d2⊢;by_cases hG:G2 (k+k2)=G2 (k+(k2-1))
       ·have VR:(G2 (k+k2) !=G2 (k+(k2-1)))=false:=(by simp[hG]);have iM:Hid (qX d (k+(k2+1)) k3 c):=HC.o.y8 KI.o HD.o (by omega) (by omega) (by omega) (by have h1:=nW.o (k+k2);have h2:=nW.o (k+(k2-1));rw[show k+k2-1=k+(k2-1) by omega];omega);clear hG;go_wp2_with fail;go_roundw
        case rel=>exact⟨k3,k2+1,c,rfl,by go_num,by omega,by omega,by omega,by omega,oC,iM,uO⟩
        case measure=>simp[dM]<;>omega
       ·have VR:(G2 (k+k2) !=G2 (k+(k2-1)))=true:=by simp[hG]
        have iM:Hid (qX d (k+(k2+1)) (k3+1) (c.setIfInBounds k3 (G2 (k+k2)))):=by
         rw[nW.o];exact HC.o.next (by have h1:=nW.o (k+k2);have h2:=nW.o (k+(k2-1));rw[show k+k2-1=k+(k2-1) by omega];omega) KI.o HD.o (oC.o.trans HD.o.symm) (by omega) (by omega)
        clear hG;go_wp2_with fail;go_roundw
        case rel=>exact⟨k3+1,k2+1,_,by go_num,by go_num,by omega,by omega,by omega,by omega,by rw[Array.size_setIfInBounds];exact oC,iM,bL (by have:=uO.o.put (t:=k3) (by have:=oC.o;omega) (G2 (k+k2));rw[Bf]at this;exact this)⟩
        case measure=>simp[dM]<;>omega
      ·have c_:¬((k2:Int)<((n-k:Nat):Int)):=by omega
       have fy:∀ty,(Builtin.clear_ #[96] ty #[.slice (some ⟨g,k3,none⟩) (n-k3) (cap-k3)]).run prog wr=.ok (.tuple #[]) (wr.setCells g k3 (List.replicate (n-k3) (.int .i32 0))):=
        fun ty=>Lib.run_clear_slice wr _ 21 ty _ underlying96 (by intro w;rfl) rfl rfl g k3 _ _ (by omega) (fun j hj=>by rw[bj (k3+j) (by omega)];rfl) (fun j hj=>bP (k3+j) (by omega))
       have bA:(k3:Int)<=(n:Int):=(by omega);have dC:k3<=cap:=(by omega);have ax:=bL (tB.of (cap:=cap) (vs:=List.replicate (n-k3) (.int .i32 0)) HD.o oC.o (by omega) HC.o (by omega) dV.o);clear bj bP dV;go_wp2_with fail;go_ret;exact ax.o
    ·have VR:(G k==G (k-1))=false:=by simp[hG]
     have afu:Hid (∀i,1<=i->i<k+1->d[i]! ≠d[i-1]!):=fun i h1 h2=>by
      by_cases e:i=k
      ·rw[e,<-pH.o,<-pH.o];exact hG
      ·exact SF.o i h1 (by omega)
     clear hG;go_wp2_with fail;go_roundw
     case rel=>exact⟨k+1,by go_num,by omega,by omega,afu,oR⟩
     case measure=>simp[dM]<;>omega
   ·have hzk:¬((k:Int)<(n:Int)):=(by omega);go_wp2_with fail;go_ret;exact tB.all (fun i h1 h2=>SF.o i h1 (by omega)) HD.o KI.o HW.o
