/- The library's so -/
import Derived.Test.YtpdnofhackjfdaaGreatDoorP36
set_option linter.all false
set_option maxRecDepth 100000
set_option maxHeartbeats 8000000
namespace Go.Proofs.YtpdnofhackjfdaaGreatDoor
open Go.Proofs.Tryz
open Go.RowKit Go.Lib Go.Sort
variable {c c' d:Array Int} {R:Array Int×Bool} {U a a1 b b1 cap g i i1 j j1 k m n off p sz:Nat} {w w1:World}
def aao(w:World)(g off sz a b:Nat)(d:Array Int):Ending->World->Prop:=fun e w'=>∃(t:Bool) (c:Array Int),e=.returned (.bool t)/\partialInsertionSort ltInt d a b=(c,t)/\cB w g off sz w' c
theorem aoW(h:scanSorted ltInt d b i=U)(dW:i<b)(hp:¬d[i]! <d[i-1]!):scanSorted ltInt d b (i+1)=U:=by
 rw[<-h];conv=>rhs;unfold scanSorted
 rw[if_pos (by simp[jd,dW];omega)]
theorem aoY(h:scanSorted ltInt d b i=U)(hp:d[i]! <d[i-1]!):i=U:=by
 rw[<-h];unfold scanSorted;rw[if_neg (by simp[jd,hp])]
theorem aoX(h:scanSorted ltInt d b i=U)(dW:¬i<b):i=U:=by
 rw[<-h];unfold scanSorted;rw[if_neg (by simp[dW])]
theorem aoJ(h:shiftDown ltInt j d=c)(hj:1<=j)(hp:d[j]! <d[j-1]!):shiftDown ltInt (j-1) (swp d j (j-1))=c:=by
 obtain⟨k,rfl⟩:∃k,j=k+1:=⟨j-1,by omega⟩
 rw[<-h];conv=>rhs;unfold shiftDown
 rw[Cz]at hp⊢;rw[if_neg (by simp[jd,hp])]
theorem aoL(h:shiftDown ltInt j d=c)(hp:¬d[j]! <d[j-1]!):d=c:=by
 rw[<-h]
 cases j with
 |zero=>rfl
 |succ k=>
  rw[Cz]at hp;unfold shiftDown;rw[if_pos (by simp[jd];omega)]
theorem aoK(h:shiftDown ltInt j d=c)(hj:j=0):d=c:=by
 subst hj;exact h
theorem apC(h:shiftUp ltInt b j d=c)(hj:j<b)(hp:d[j]! <d[j-1]!):shiftUp ltInt b (j+1) (swp d j (j-1))=c:=by
 rw[<-h];conv=>rhs;unfold shiftUp
 rw[if_pos hj,if_neg (by simp[jd,hp])]
theorem apE(h:shiftUp ltInt b j d=c)(hp:¬d[j]! <d[j-1]!):d=c:=by
 rw[<-h];unfold shiftUp;split
 ·rw[if_pos (by simp[jd];omega)]
 ·rfl
theorem apD(h:shiftUp ltInt b j d=c)(hj:¬j<b):d=c:=by
 rw[<-h];unfold shiftUp;rw[if_neg hj]
theorem ano(h:partialIns ltInt a b (5-j1) i1 c=R)(hj:¬j1<5):(c,false)=R:=by
 rw[<-h,show 5-j1=0 by omega];rfl
theorem ann(h:partialIns ltInt a b (5-j1) i1 c=R)(hj:j1<5)(hi:i=scanSorted ltInt c b i1):
 (i=b->(c,true)=R)/\(¬i=b->b-a<50->(c,false)=R)/\(¬i=b->¬b-a<50->partialIns ltInt a b (5-(j1+1)) i (fixUp ltInt b i (fixDown ltInt a i (swp c i (i-1))))=R):=by
 obtain⟨k,hk⟩:∃k,5-j1=k+1:=⟨5-j1-1,by omega⟩
 rw[hk,partialIns_succ,<-hi]at h;rw[show 5-(j1+1)=k by omega];refine⟨fun e=>?_,fun e e2=>?_,fun e e2=>?_⟩
 ·rw[if_pos e]at h;exact h
 ·rw[if_neg e,if_pos e2]at h;exact h
 ·rw[if_neg e,if_neg e2]at h;exact h
theorem anz(hd:d.size=n)(hR:iU w g off sz d)(lG:a+2<=b)(hb:b<=n)(hn:n<1000000000):
 Calls prog 154 #[.slice (some (GB g off)) n cap,GW (a:Int),GW (b:Int)] w (aao w g off sz a b d):=by
 obtain⟨R,vR⟩:∃R,R=partialInsertionSort ltInt d a b:=⟨_,rfl⟩
 have aA:Hid (∀(t:Bool) (c:Array Int) (w1:World),(c,t)=R->cB w g off sz w1 c->aao w g off sz a b d (.returned (.bool t)) w1):=fun t c w1 h1 h2=>⟨t,c,rfl,by rw[h1,vR],h2⟩
 have kQ:Hid (partialIns ltInt a b 5 (a+1) d=R):=vR.symm;clear vR;have lT:=bP (cB.refl hR);clear hR;go_enter func154,ntmps154;go_wp2_with fail;go_loopw [7,8] (fun vi vj wr=>∃(i1 j1:Nat) (c:Array Int),vi=GW (i1:Int)/\vj=GW (j1:Int)/\a+1<=i1/\i1<=b/\j1<=5/\Hid (c.size=n)/\Hid (partialIns ltInt a b (5-j1) i1 c=R)/\Hid (cB w g off sz wr c)) (fun _ vj _=>5-(dS vj).toNat)
 case atStart=>exact⟨a+1,0,d,by go_num,rfl,by omega,by omega,by omega,hd,kQ,lT⟩
 case round=>
  clear lT hd kQ;obtain⟨i1,j1,c,rfl,rfl,oE,lH,r_,js,kQ,HW⟩:=hrel;obtain⟨U,hU⟩:∃U,U=scanSorted ltInt c b i1:=⟨_,rfl⟩
  have HU:=bP hU;clear hU;by_cases Ri:j1<5
  ·have hz5:(j1:Int)<5:=(by omega);go_upto_block 2 with fail
   go_cut [7] (fun sx wx=>∃i:Nat,sx=GW (i:Int)/\i1<=i/\i<=b/\Hid (i=U)/\Hid (cB w g off sz wx c))
   case first=>
    go_wp2_with fail
    go_loopw [7] (fun vi wr=>∃i:Nat,vi=GW (i:Int)/\i1<=i/\i<=b/\Hid (scanSorted ltInt c b i=U)/\Hid (cB w g off sz wr c)) (fun vi _=>b-(dS vi).toNat)
    case atStart=>exact⟨i1,rfl,Ab _,by omega,HU.o.symm,HW⟩
    case round=>
     obtain⟨i,rfl,cZ,gg,HS,dZ⟩:=hrel;clear HW;obtain⟨bl,bT⟩:=dZ.o.row.ja;rw[js.o]at bl bT;by_cases hc:i<b
     ·have hz:(i:Int)<(b:Int):=(by omega);go_wp2_with fail;go_big_quiet (first|(go_at_call 155;refine As (jF _ _ _)));go_wp2_with fail
      ·go_roundw
       case rel=>exact⟨i+1,by go_num,by omega,by omega,aoW HS.o hc (by first|omega|exact oR (by assumption)),dZ.o.drewN _⟩
       case measure=>simp[dS]<;>omega
      ·go_meet
       case rel=>exact⟨i,rfl,by omega,by omega,aoY HS.o (by first|omega|exact oS (by assumption)),dZ.o.drewN _⟩
     ·have hz:decide ((i:Int)<(b:Int))=false:=Bg (by omega);go_wp2_with fail;go_big_quiet (first|(go_at_call 155;refine As (jF _ _ _)));go_wp2_with fail;go_meet
      case rel=>exact⟨i,rfl,by omega,by omega,aoX HS.o hc,dZ.o.drewN _⟩
   case rest=>
    obtain⟨i,rfl,Rf,hi4,ux,eu⟩:=hcut;clear HW;have ET:=bP (ann kQ.o Ri (ux.o.trans HU.o));clear kQ ux HU;by_cases dW:i=b
    ·have hz:((i:Int)==(b:Int))=true:=(by simp[dW]);have ajH:=bP dW;clear dW;go_wp2_with fail;go_ret;exact aA.o true c _ (ET.o.1 ajH.o) eu.o
    ·have hz:((i:Int)==(b:Int))=false:=by simp;omega
     by_cases h50:b<a+50
     ·have de:(b:Int)-(a:Int)<50:=(by omega);go_wp2_with fail;go_ret;exact aA.o false c _ (ET.o.2.1 dW (by omega)) eu.o
     ·have de:¬((b:Int)-(a:Int)<50):=(by omega);have aW:=js.o;obtain⟨bl,bT⟩:=eu.o.row.ja;rw[aW]at bl bT;obtain⟨⟨q0,q1⟩,q2⟩:=(eu.o.put (show i<c.size by omega) c[i-1]!).row.oy (show i-1<_ by simp;omega);have I0:=bP (ET.o.2.2 dW (by omega));go_wp2_with fail;go_region;have yF:=bP ((eu.o.drew).swap (show i<c.size by omega) (show i-1<c.size by omega));obtain⟨c1,nR⟩:∃c1,c1=swp c i (i-1):=⟨_,rfl⟩
      rw[<-nR]at yF I0;have cZ:Hid (c1.size=n):=by rw[nR];exact(size_swp _ _ _).trans aW
      obtain⟨c2,jq⟩:∃c2,c2=fixDown ltInt a i c1:=⟨_,rfl⟩
      rw[<-jq]at I0;have iZ:=bP jq;clear bl bT q1 q2 eu ET nR jq;go_upto_if 61 with fail
      go_cut [7] (fun sx wx=>sx=GW (i:Int)/\Hid (c2.size=n)/\Hid (cB w g off sz wx c2))
      case first=>
       by_cases h2:a+2<=i
       ·have Xd:(2:Int)<=(i:Int)-(a:Int):=(by omega);go_wp2_with fail;have Lb:Hid (shiftDown ltInt (i-1) c1=c2):=by rw[iZ.o];unfold fixDown;rw[if_pos (by omega)];exact rfl
        go_loopw [9] (fun vj wr=>∃(j:Nat) (e:Array Int),vj=GW (j:Int)/\j<i/\j<n/\Hid (e.size=n)/\Hid (shiftDown ltInt j e=c2)/\Hid (cB w g off sz wr e)) (fun vj _=>(dS vj).toNat)
        case atStart=>exact⟨i-1,c1,by congr 1;omega,by omega,by omega,cZ,Lb,yF⟩
        case round=>
         obtain⟨j,e,rfl,ake,gg,lJ,HS,dZ⟩:=hrel;clear yF Lb;by_cases hc:1<=j
         ·have hz:(1:Int)<=(j:Int):=(by omega);obtain⟨bl,bT⟩:=dZ.o.row.ja;rw[lJ.o]at bl bT;go_wp2_with fail;go_big_quiet (first|(go_at_call 155;refine As (jF _ _ _)));go_wp2_with fail
          ·go_meet
           case rel=>
            have E:=aoL HS.o (by first|omega|exact oR (by assumption));rw[<-E];exact⟨rfl,lJ,dZ.o.drewN _⟩
          ·have vt:=bP (dZ.o.drewN nq);have jN:∀t,t<n->(wr.drewN nq).cell? ⟨g,off+t,none⟩=some (.int .i32 e[t]!):=(bl);have jO:∀t,t<n->(wr.drewN nq).frozen? ⟨g,off+t,none⟩=false:=bT
           clear bl bT dZ;generalize wr.drewN nq=wr2 at jN jO vt⊢;obtain⟨⟨q0,q1⟩,q2⟩:=(vt.o.put (show j<e.size by have:=lJ.o;omega) e[j-1]!).row.oy (show j-1<_ by have:=lJ.o;simp;omega);go_region;go_wp2_with fail;go_roundw
           case rel=>exact⟨j-1,_,by congr 1;omega,by omega,by omega,(size_swp _ _ _).trans lJ.o,aoJ HS.o hc (by first|omega|exact oS (by assumption)),(vt.o.drew).swap (show j<e.size by have:=lJ.o;omega) (show j-1<e.size by have:=lJ.o;omega)⟩
           case measure=>simp[dS]<;>omega
         ·have hz:¬((1:Int)<=(j:Int)):=(by omega);go_wp2_with fail;go_meet
          case rel=>
           have E:=aoK HS.o (by omega);rw[<-E];exact⟨rfl,lJ,dZ.o⟩
       ·have Xd:¬((2:Int)<=(i:Int)-(a:Int)):=(by omega);go_wp2_with fail;go_meet
        case rel=>
         have E:c2=c1:=by rw[iZ.o];unfold fixDown;rw[if_neg (by omega)]
         rw[E];exact⟨rfl,cZ,yF⟩
      case rest=>
       obtain⟨rfl,gg,HWb⟩:=hcut;clear yF;have yF:=HWb;clear HWb iZ cZ;obtain⟨c3,CH⟩:∃c3,c3=fixUp ltInt b i c2:=⟨_,rfl⟩
       rw[<-CH]at I0;have tR:=bP CH;clear CH;by_cases h2:i+2<=b
       ·have Xd:(2:Int)<=(b:Int)-(i:Int):=(by omega);go_wp2_with fail;have Lb:Hid (shiftUp ltInt b (i+1) c2=c3):=by rw[tR.o];unfold fixUp;rw[if_pos (by omega)];exact rfl
        go_loopw [10] (fun vj wr=>∃(j:Nat) (e:Array Int),vj=GW (j:Int)/\j<=b/\i+1<=j/\Hid (e.size=n)/\Hid (shiftUp ltInt b j e=c3)/\Hid (cB w g off sz wr e)) (fun vj _=>(b-(dS vj).toNat))
        case atStart=>exact⟨i+1,c2,by go_num,by omega,by omega,gg,Lb,yF⟩
        case round=>
         obtain⟨j,e,rfl,ake,aq5,lJ,HS,dZ⟩:=hrel;clear yF Lb;by_cases hc:j<b
         ·have hz:(j:Int)<(b:Int):=(by omega);obtain⟨bl,bT⟩:=dZ.o.row.ja;rw[lJ.o]at bl bT;go_wp2_with fail;go_big_quiet (first|(go_at_call 155;refine As (jF _ _ _)));go_wp2_with fail
          ·go_roundw
           case rel=>
            have E:=apE HS.o (by first|omega|exact oR (by assumption));exact⟨i,j1+1,e,rfl,by go_num,by omega,by omega,by omega,lJ,by rw[E];exact I0,dZ.o.drewN _⟩
           case measure=>simp[dS]<;>omega
          ·have vt:=bP (dZ.o.drewN nq);have jN:∀t,t<n->(wr.drewN nq).cell? ⟨g,off+t,none⟩=some (.int .i32 e[t]!):=(bl);have jO:∀t,t<n->(wr.drewN nq).frozen? ⟨g,off+t,none⟩=false:=bT
           clear bl bT dZ;generalize wr.drewN nq=wr2 at jN jO vt⊢;obtain⟨⟨q0,q1⟩,q2⟩:=(vt.o.put (show j<e.size by have:=lJ.o;omega) e[j-1]!).row.oy (show j-1<_ by have:=lJ.o;simp;omega);go_region;go_wp2_with fail;go_roundw
           case rel=>exact⟨j+1,_,by go_num,by omega,by omega,(size_swp _ _ _).trans lJ.o,apC HS.o hc (by first|omega|exact oS (by assumption)),(vt.o.drew).swap (show j<e.size by have:=lJ.o;omega) (show j-1<e.size by have:=lJ.o;omega)⟩
           case measure=>simp[dS]<;>omega
         ·have hz:¬((j:Int)<(b:Int)):=(by omega);go_wp2_with fail;go_roundw
          case rel=>
           have E:=apD HS.o hc;exact⟨i,j1+1,e,rfl,by go_num,by omega,by omega,by omega,lJ,by rw[E];exact I0,dZ.o⟩
          case measure=>simp[dS]<;>omega
       ·have Xd:¬((2:Int)<=(b:Int)-(i:Int)):=(by omega);go_wp2_with fail;go_roundw
        case rel=>
         have E:c3=c2:=by rw[tR.o];unfold fixUp;rw[if_neg (by omega)]
         exact⟨i,j1+1,c2,rfl,by go_num,by omega,by omega,by omega,gg,by rw[<-E];exact I0,yF⟩
        case measure=>simp[dS]<;>omega
  ·have hz5:¬((j1:Int)<5):=(by omega);go_wp2_with fail;go_ret;exact aA.o false c _ (ano kQ.o Ri) HW.o
theorem cB.new(h:cB w g off sz w1 d)(o:Obj):cB w g off sz (w1.alloc o) d:=⟨h.row.kept ((aa.refl ai w1).alloc o) (fun hx=>hx),h.kept.alloc o⟩
theorem cB.aoD{s:Nat}(h:cB w g off sz w1 d)(hs:w.heap.size<=s)(hg:g≠s)(u:Value):cB w g off sz (w1.setCell (GB s j) u) d:=
 ⟨h.row.kept ((aa.refl (fun i=>i=s) w1).setCell (p:=(GB s j)) (Or.inl rfl) u) hg,h.kept.setCell (p:=(GB s j)) (Or.inr hs) u⟩
theorem ahb(hd:d.size=n)(hR:iU w g off sz d)(lG:a+12<=b)(hb:b<=n)(hn:n<1000000000):
 Calls prog 151 #[.slice (some (GB g off)) n cap,GW (a:Int),GW (b:Int)] w fun e w'=>e=.returned (.tuple #[])/\PmV w g off sz a b d w':=by
 obtain⟨M,hM⟩:∃M:Nat,M=1<<<bitsLen (b-a):=⟨_,rfl⟩
 have iW:1<=M:=by rw[hM,Nat.one_shiftLeft];exact Nat.two_pow_pos _
 have GI:M<=2*(b-a):=by rw[hM,Nat.one_shiftLeft];exact two_pow_bitsLen_le (by omega)
 have hNP:Hid (∀w,Calls prog 176 #[GW ((b:Int)-(a:Int))] w fun e w'=>e=.returned (.int .u64 (M:Int))/\w'=w):=by
  intro w;rw[show(b:Int)-(a:Int)=((b-a:Nat):Int) by omega,hM];exact amh (b-a) (by omega) w
 have xH:=hR.lt;have lh:g≠w.heap.size:=by omega
 have WU:w.heap.size≠g:=by omega
 have lT:=bP ((cB.refl hR).new (.cells #[.int .u64 ((b:Int)-(a:Int))] 265));have h8:(8:Int)<=(b:Int)-(a:Int):=by omega
 have Z4:Hid (PermIn a b d d):=permIn_refl _ _ _;have HD:=bP hd;clear hM hR hd;go_enter func151,ntmps151;go_wp2_with fail;refine(hNP.o _).mono ?_;rintro e w' ⟨rfl,rfl⟩;go_wp2_with fail;go_loopw [9] (fun vi wr=>∃(i X:Nat) (c:Array Int),vi=GW (i:Int)/\a<=i/\i<=a+(b-a) /4*2+2/\X<18446744073709551616/\wr.cell? (GB w.heap.size 0)=some (.int .u64 (X:Int))/\wr.frozen? (GB w.heap.size 0)=false/\Hid (c.size=n)/\Hid (PermIn a b d c)/\Hid (cB w g off sz wr c)) (fun vi _=>a+(b-a) /4*2+2-(dS vi).toNat)
 case atStart=>
  refine⟨a+(b-a) /4*2-1,b-a,d,by congr 1;omega,by omega,by omega,by omega,?_,by simp,HD,Z4,lT⟩;rw[show((b-a:Nat):Int)=(b:Int)-(a:Int) by omega];simp
 case round=>
  clear lT Z4 HD;obtain⟨i,X,c,rfl,oE,lH,hX,cX,fX,js,HP,HW⟩:=hrel;by_cases hc:i<=a+(b-a) /4*2+1
  ·have hz:(i:Int)<=(a:Int)+((b:Int)-(a:Int)) /4*2+1:=(by omega);obtain⟨X',VP⟩:∃X':Nat,X'=xorNextN X:=⟨_,rfl⟩
   have lX':X'<18446744073709551616:=by rw[VP];exact xorNextN_lt X hX
   obtain⟨O,hO⟩:∃O:Nat,O=X'&&& (M-1):=⟨_,rfl⟩
   have lO:O<=M-1:=by rw[hO];exact Nat.and_le_right
   have aqk:bits .and .u64 (X':Int) ((M:Int)-1)=(O:Int):=by
    rw[show((M:Int)-1)=((M-1:Nat):Int) by omega,bits_and_u64_nat _ _ lX' (by omega),hO]
   have F:=aqf w.heap.size X hX wr cX fX;rw[<-VP]at F;have F:=bP F;have oZ:=bP ((HW.o.aoD (j:=0) (Ab _) lh (.int .u64 (X':Int))).drewN 3)
   have UN:((wr.setCell (GB w.heap.size 0) (.int .u64 (X':Int))).drewN 3).cell? (GB w.heap.size 0)=some (.int .u64 (X':Int)):=by
    rw[World.cell?_drewN];exact World.cell?_setCell_same _ _ _ cX
   have fX1:((wr.setCell (GB w.heap.size 0) (.int .u64 (X':Int))).drewN 3).frozen? (GB w.heap.size 0)=false:=by
    rw[World.frozen?_drewN];simpa using fX
   clear HW VP hO;generalize(wr.setCell (GB w.heap.size 0) (.int .u64 (X':Int))).drewN 3=w2 at F oZ UN fX1;clear cX fX hX;go_wp2_with fail;refine(F.o).mono ?_;rintro e w' ⟨rfl,rfl⟩;clear F;go_upto_if 43 with fail
   go_cut [10] (fun sx wx=>∃o:Nat,sx=GW (o:Int)/\o<b-a/\wx=w')
   case first=>
    by_cases hL:b-a<=O
    ·have hzL:(b:Int)-(a:Int)<=(O:Int):=(by omega);go_wp2_with fail;go_meet
     case rel=>exact⟨O-(b-a),by congr 1;omega,by omega,rfl⟩
    ·have hzL:¬((b:Int)-(a:Int)<=(O:Int)):=(by omega);go_wp2_with fail;go_meet
     case rel=>exact⟨O,rfl,by omega,rfl⟩
   case rest=>
    obtain⟨o,rfl,ho,rfl⟩:=hcut;obtain⟨bl,bT⟩:=oZ.o.row.ja;rw[js.o]at bl bT;obtain⟨⟨q0,q1⟩,q2⟩:=(oZ.o.put (show i<c.size by have:=js.o;omega) c[a+o]!).row.oy (show a+o<_ by have:=js.o;simp;omega);go_wp2_with fail;go_region;have eu:=bP ((oZ.o.drew).swap (show i<c.size by have:=js.o;omega) (show a+o<c.size by have:=js.o;omega));have vh:Hid (PermIn a b d (swp c i (a+o))):=permIn_trans _ _ _ _ _ HP.o (swp_permIn _ _ _ _ _ oE (by omega) (by omega) (by omega) (by have:=js.o;omega));have kk:=(((aa.refl (fun i=>i=g) wc).drew).setCell (p:=⟨g,off+i,none⟩) (Or.inl rfl) (.int .i32 c[a+o]!)).setCell (p:=⟨g,off+(a+o),none⟩) (Or.inl rfl) (.int .i32 c[i]!);have jP:=Bk _ _ UN;have Y9:=bP (And.intro ((kk.cell (p:=(GB w.heap.size 0)) jP WU).trans UN) ((kk.frozen (p:=(GB w.heap.size 0)) jP WU).trans fX1));clear bl bT q1 q2 kk;go_wp2_with fail;go_roundw
    case rel=>
     exact⟨i+1,X',_,by go_num,by omega,by omega,lX',Y9.o.1,Y9.o.2,(size_swp _ _ _).trans js.o,vh,eu⟩
    case measure=>simp[dS]<;>omega
  ·have hz:¬((i:Int)<=(a:Int)+((b:Int)-(a:Int)) /4*2+1):=(by omega);go_wp2_with fail;go_end0;exact⟨rfl,c,HP.o,HW.o⟩
def Uu(w:World)(g off sz a b:Nat)(d:Array Int)(w':World):Prop:=∃c:Array Int,PermIn a b d c/\SortedIn ltInt a b c/\cB w g off sz w' c
def oX(a b:Nat)(d:Array Int)(a1 b1:Nat)(c:Array Int):Prop:=Below ltInt a1 b1 c/\∀R,PermIn a1 b1 c R->SortedIn ltInt a1 b1 R->PermIn a b d R/\SortedIn ltInt a b R
theorem oX.vL{R:Array Int}(h:oX a b d a1 b1 c)(hR:PermIn a1 b1 c R/\SortedIn ltInt a1 b1 R)(hw:cB w g off sz w1 R):Uu w g off sz a b d w1:=
 ⟨R,(h.2 R hR.1 hR.2).1,(h.2 R hR.1 hR.2).2,hw⟩
theorem oX.perm(h:oX a b d a1 b1 c)(hb:b1<=c.size)(hp:PermIn a1 b1 c c'):oX a b d a1 b1 c':=
 ⟨h.1.perm hb hp,fun R h1 h2=>h.2 R (permIn_trans _ _ _ _ _ hp h1) h2⟩
theorem oX.eq(h:oX a b d a1 b1 c)(hb:b1<=c.size)(hp:a1<=p/\p<b1)(h0:0<a1)(hl:¬c[a1-1]! <c[p]!)(hx:partitionEqual ltInt c a1 b1 p=(m,c')):c'.size=c.size/\oX a b d m b1 c':=by
 obtain⟨_,_,h3,h4,h5⟩:=round_eq swo_ltInt (partitionEqual_holds ltInt) h0 hp.1 hp.2 hb h.1 (by rw[jd];exact Bg hl) hx;exact⟨h3,h4,fun R r1 r2=>h.2 R (h5 R r1 r2).1 (h5 R r1 r2).2⟩
theorem oX.part{t:Bool}(h:oX a b d a1 b1 c)(hb:b1<=c.size)(hp:a1<=p/\p<b1)(hx:partition ltInt c a1 b1 p=(m,t,c')):
 c'.size=c.size/\Below ltInt a1 m c'/\Below ltInt (m+1) b1 c'/\(∀L,PermIn a1 m c' L->SortedIn ltInt a1 m L->oX a b d (m+1) b1 L)/\∀L,PermIn (m+1) b1 c' L->SortedIn ltInt (m+1) b1 L->oX a b d a1 m L:=by
 obtain⟨_,_,h3,h4,h5,h6,h7⟩:=round_part swo_ltInt (partition_holds ltInt) hp.1 hp.2 hb h.1 hx;exact⟨h3,h4,h5,fun L l1 l2=>⟨(h6 L l1 l2).1,fun R r1 r2=>h.2 R ((h6 L l1 l2).2 R r1 r2).1 ((h6 L l1 l2).2 R r1 r2).2⟩,fun L l1 l2=>⟨(h7 L l1 l2).1,fun R r1 r2=>h.2 R ((h7 L l1 l2).2 R r1 r2).1 ((h7 L l1 l2).2 R r1 r2).2⟩⟩
theorem anB(hd:d.size=n)(hR:iU w g off sz d)(lG:a+12<=b)(hb:b<=n)(hn:n<4611686018427387904):
 Calls prog 152 #[.slice (some (GB g off)) n cap,GW (a:Int),GW (b:Int)] w fun e w'=>∃(p:Nat) (h:Int),e=.returned (.tuple #[GW (p:Int),GW h])/\(a<=p/\p<b)/\cB w g off sz w' d:=by
 have hRo:=hR.ok;rw[hd]at hRo;refine(anA hRo lG hb hn).mono ?_;rintro e w' ⟨p,h,h1,h2,h3⟩;exact⟨p,h,h1,h2,hR.kept h3 (fun hx=>hx),h3.mono (fun _ hx=>hx.elim)⟩
theorem ani(hn:n<1000000000):∀(N:Nat) (w:World) (d:Array Int) (a b lim:Nat),b-a<=N->d.size=n->Below ltInt a b d->iU w g off sz d->a<=b->b<=n->lim<=100->
 Calls prog 123 #[.slice (some (GB g off)) n cap,GW (a:Int),GW (b:Int),GW (lim:Int)] w fun e w'=>e=.returned (.tuple #[])/\Uu w g off sz a b d w':=by
 intro N;induction N using Nat.strongRecOn with
 |ind N IH=>
 intro w d a b lim hN hd Vt hR lG hb acu;have ZO:=bP IH;have lT:=bP (cB.refl hR);have ZK:Hid (oX a b d a b d):=⟨Vt,fun R h1 h2=>⟨h1,h2⟩⟩;have HD:=bP hd;clear IH hR hd Vt;go_enter func123,ntmps123;go_wp2_with fail;go_loopw [1,2,3,8,9] (fun va vb vl vwb vwp wr=>∃(a1 b1 l1:Nat) (wb wp:Bool) (c:Array Int),va=GW (a1:Int)/\vb=GW (b1:Int)/\vl=GW (l1:Int)/\vwb=.bool wb/\vwp=.bool wp/\a1<=b1/\b1<=n/\b1-a1<=N/\l1<=100/\Hid (c.size=n)/\Hid (oX a b d a1 b1 c)/\Hid (cB w g off sz wr c)) (fun va vb _ _ _ _=>(dS vb-dS va).toNat)
 case atStart=>exact⟨a,b,lim,true,true,d,rfl,rfl,rfl,rfl,rfl,lG,hb,hN,acu,HD,ZK,lT⟩
 case round=>
  clear lT lG hb hN acu HD ZK;obtain⟨a1,b1,l1,wb,wp,c,rfl,rfl,rfl,rfl,rfl,lG,hb,hN,hl,HS,HG,HW⟩:=hrel;by_cases h12:b1<=a1+12
  ·have hz:(b1:Int)-(a1:Int)<=12:=(by omega);have F:=bP (akL (cap:=cap) HS.o HW.o.row lG hb (by omega));go_wp2_with fail;refine(F.o).mono ?_;rintro e w1 ⟨rfl,P1⟩;go_wp2_with fail;(try simp only[Exit.inBlock,Exit.then]);refine Bm (Dk rfl _ _ _) rfl ?_;exact⟨rfl,HG.o.vL (insertionSort_holds swo_ltInt c a1 b1 lG (by have:=HS.o;omega)) (HW.o.trans P1)⟩
  ·have hz:¬((b1:Int)-(a1:Int)<=12):=(by omega);by_cases Ng:l1=0
   ·have dm:((l1:Int)==0)=true:=(by simp[Ng]);have F:=bP (aju (cap:=cap) HS.o HW.o.row (show a1<b1 by omega) hb hn);go_wp2_with fail;refine(F.o).mono ?_;rintro e w1 ⟨rfl,P1⟩;go_wp2_with fail;(try simp only[Exit.inBlock,Exit.then]);refine Bm (Dk rfl _ _ _) rfl ?_;exact⟨rfl,HG.o.vL (heapSort_holds swo_ltInt c a1 b1 lG (by have:=HS.o;omega)) (HW.o.trans P1)⟩
   ·have dm:((l1:Int)==0)=false:=by simp;omega
    go_upto_if 35 with fail
    go_cut [3] (fun sx wx=>∃(l2:Nat) (c1:Array Int),sx=GW (l2:Int)/\l2<=100/\Hid (c1.size=n)/\Hid (oX a b d a1 b1 c1)/\Hid (cB w g off sz wx c1))
    case first=>
     cases wb with
     |true=>
      go_wp2_with fail
      go_meet
      case rel=>exact⟨l1,c,rfl,hl,HS,HG,HW⟩
     |false=>
      have F:=bP (ahb (cap:=cap) HS.o HW.o.row (show a1+12<=b1 by omega) hb hn);go_wp2_with fail;refine(F.o).mono ?_;rintro e w1 ⟨rfl,c1,PP,P1⟩;have oZ:=bP (HW.o.trans P1);have vo:Hid (c1.size=n):=PP.1.trans HS.o;have Lg:=bP (HG.o.perm (by have:=HS.o;omega) PP);clear P1 F PP;go_wp2_with fail;go_meet
      case rel=>exact⟨l1-1,c1,by congr 1;omega,by omega,vo,Lg,oZ⟩
    case rest=>
     obtain⟨l2,c1,rfl,uB,vo,Lg,oZ⟩:=hcut;clear HW Ng dm hl HS HG;have F:=bP (anB (cap:=cap) vo.o oZ.o.row (show a1+12<=b1 by omega) hb (by omega));go_wp2_with fail;refine(F.o).mono ?_;rintro e w2 ⟨p,h,rfl,hp,P2⟩;have eu:=bP (oZ.o.trans P2);clear P2 F oZ;go_upto_if 50 with fail
     go_cut [11,12] (fun wP tL wx=>∃(p2:Nat) (h2:Int) (c2:Array Int),wP=GW (p2:Int)/\tL=GW h2/\(a1<=p2/\p2<b1)/\Hid (c2.size=n)/\Hid (oX a b d a1 b1 c2)/\Hid (cB w g off sz wx c2))
     case first=>
      by_cases h2:h=2
      ·have de:(h==2)=true:=(by simp[h2]);have F:=bP (an9 (cap:=cap) vo.o eu.o.row (show a1<b1 by omega) hb (by omega));clear h2;go_wp2_with fail;refine(F.o).mono ?_;rintro e w3 ⟨rfl,c2,PP,P3⟩;have fH:=bP (eu.o.trans P3);have il:Hid (c2.size=n):=PP.1.trans vo.o;have od:=bP (Lg.o.perm (by have:=vo.o;omega) PP);clear P3 F PP;go_wp2_with fail;go_meet
       case rel=>exact⟨b1-1-(p-a1),1,c2,by congr 1;omega,rfl,by omega,il,od,fH⟩
      ·have de:(h==2)=false:=(by simp[h2]);clear h2;go_wp2_with fail;go_meet
       case rel=>exact⟨p,h,c1,rfl,rfl,hp,vo,Lg,eu⟩
     case rest=>
      obtain⟨p2,h2,c2,rfl,rfl,qW,il,od,fH⟩:=hcut;clear eu hp vo Lg;go_upto_region 15 with fail
      go_cut [68] (fun sx wx=>∃c:Nat,sx=.bool (c==1)/\Hid (cB w g off sz wx c2))
      case first=>
       cases wb with
       |false=>
        go_wp2_with fail
        go_meet
        case rel=>exact⟨0,rfl,fH⟩
       |true=>
        cases wp with
        |false=>
         go_wp2_with fail
         go_meet
         case rel=>exact⟨0,rfl,fH⟩
        |true=>
         by_cases h1:h2=1
         ·have du:(h2==1)=true:=(by simp[h1]);clear h1;go_wp2_with fail;go_meet
          case rel=>exact⟨1,rfl,fH⟩
         ·have du:(h2==1)=false:=(by simp[h1]);clear h1;go_wp2_with fail;go_meet
          case rel=>exact⟨0,rfl,fH⟩
      case rest=>
       obtain⟨cz,rfl,o7⟩:=hcut;clear fH;go_upto_if 68 with fail
       go_cut [11] (fun sx wx=>∃c3:Array Int,sx=GW (p2:Int)/\Hid (c3.size=n)/\Hid (oX a b d a1 b1 c3)/\Hid (cB w g off sz wx c3))
       case first=>
        by_cases hc:cz=1
        ·have Xf:(cz==1)=true:=(by simp[hc]);have F:=bP (anz (cap:=cap) il.o o7.o.row (show a1+2<=b1 by omega) hb hn);clear hc;go_wp2_with fail;refine(F.o).mono ?_;rintro e w5 ⟨t,c3,rfl,E5,P5⟩;have EZ:=bP (o7.o.trans P5);have yA:=bP (partialInsertionSort_holds swo_ltInt c2 a1 b1 (by omega) (by have:=il.o;omega) od.o.1);rw[E5]at yA;have yC:Hid (c3.size=n):=yA.o.1.1.trans il.o;have EI:=bP (od.o.perm (by have:=il.o;omega) yA.o.1);clear P5 F E5
         cases t with
         |true=>
          go_wp2_with fail
          (try simp only[Exit.inBlock,Exit.then]);refine Bm (Dk rfl _ _ _) rfl ?_
          exact⟨rfl,od.o.vL ⟨yA.o.1,yA.o.2 (by first|rfl|trivial)⟩ EZ.o⟩
         |false=>
          go_wp2_with fail
          go_meet
          case rel=>exact⟨c3,rfl,yC,EI,EZ⟩
        ·have Xf:(cz==1)=false:=(by simp[hc]);clear hc;go_wp2_with fail;go_meet
         case rel=>exact⟨c2,rfl,il,od,o7⟩
       case rest=>
        obtain⟨c3,rfl,yC,EI,EZ⟩:=hcut;clear o7 il od;go_upto_region 17 with fail
        go_cut [87] (fun sx wx=>∃c2:Nat,sx=.bool (c2==1)/\Hid (c2=1->0<a1/\c3[p2]! <=c3[a1-1]!)/\Hid (cB w g off sz wx c3))
        case first=>
         obtain⟨bl,bT⟩:=EZ.o.row.ja;rw[yC.o]at bl bT;by_cases ha0:0<a1
         ·have hza:(0:Int)<(a1:Int):=(by omega);go_big_quiet (first|(go_at_call 155;refine As (jF _ _ _)));go_wp2_with fail;go_meet
          case rel=>exact⟨if c3[a1-1]! <c3[p2]! then 0 else 1,by(by_cases hG:c3[a1-1]! <c3[p2]!)<;>simp only[hG]<;>rfl,fun hq=>⟨ha0,Int.not_lt.1 (fun hG=>by rw[if_pos hG]at hq;cases hq)⟩,EZ.o.drewN _⟩
         ·have hza:decide ((0:Int)<(a1:Int))=false:=Bg (by omega);go_big_quiet (first|(go_at_call 155;refine As (jF _ _ _)));go_wp2_with fail;go_meet
          case rel=>exact⟨0,rfl,fun hq=>(by cases hq),EZ.o.drewN _⟩
        case rest=>
         obtain⟨c2,rfl,iZ,I4⟩:=hcut;clear EZ;by_cases jq:c2=1
         ·have Xf:(c2==1)=true:=(by simp[jq]);have F:=bP (anl (cap:=cap) yC.o I4.o.row (show a1+2<=b1 by omega) hb hn qW);have HQ:=bP (iZ.o jq);clear jq;go_wp2_with fail;refine(F.o).mono ?_;rintro e w7 ⟨m,rfl,hm,c4,E7,P7⟩;have AJ:=bP (I4.o.trans P7);have G7:=bP (EI.o.eq (by have:=yC.o;omega) qW HQ.o.1 (Int.not_lt.2 HQ.o.2) E7);have I2:Hid (c4.size=n):=G7.o.1.trans yC.o;clear P7 F I4 E7;go_wp2_with fail;go_roundw
          case rel=>exact⟨m,b1,l2,wb,wp,c4,rfl,rfl,rfl,rfl,rfl,by omega,hb,by omega,uB,I2,G7.o.2,AJ⟩
          case measure=>simp[dS]<;>omega
         ·have Xf:(c2==1)=false:=(by simp[jq]);have F:=bP (ana (cap:=cap) yC.o I4.o.row (show a1+2<=b1 by omega) hb hn qW);clear jq;go_wp2_with fail;refine(F.o).mono ?_;rintro e w7 ⟨m,t,rfl,hm,c4,E7,P7⟩;have AJ:=bP (I4.o.trans P7);have G7:=bP (EI.o.part (by have:=yC.o;omega) qW E7);have I2:Hid (c4.size=n):=G7.o.1.trans yC.o;clear P7 F I4 E7;have FL:=bP (ZO.o (m-a1) (by omega) w7 c4 a1 m l2 (Ab _) I2.o G7.o.2.1 AJ.o.row (by omega) (by omega) uB);have FR:=ZO.o (b1-(m+1)) (by omega) w7 c4 (m+1) b1 l2 (Ab _) I2.o G7.o.2.2.1 AJ.o.row (by omega) (by omega) uB;rw[show((m+1:Nat):Int)=(m:Int)+1 by omega]at FR;have FR:=bP FR;by_cases hlr:m-a1<b1-m
          ·have hzl:(m:Int)-(a1:Int)<(b1:Int)-(m:Int):=(by omega);go_wp2_with fail;refine(FL.o).mono ?_;rintro e w8 ⟨rfl,c5,PP,SS,P8⟩;have Ub:=bP (AJ.o.trans P8);have yD:Hid (c5.size=n):=PP.1.trans I2.o;have G8:=bP (G7.o.2.2.2.1 c5 PP SS);clear P8 FL FR AJ PP SS;go_wp2_with fail;go_roundw
           case rel=>exact⟨m+1,b1,l2,_,t,c5,by go_num,rfl,rfl,rfl,rfl,by omega,hb,by omega,uB,yD,G8,Ub⟩
           case measure=>simp[dS]<;>omega
          ·have hzl:¬((m:Int)-(a1:Int)<(b1:Int)-(m:Int)):=(by omega);go_wp2_with fail;refine(FR.o).mono ?_;rintro e w8 ⟨rfl,c5,PP,SS,P8⟩;have Ub:=bP (AJ.o.trans P8);have yD:Hid (c5.size=n):=PP.1.trans I2.o;have G8:=bP (G7.o.2.2.2.2 c5 PP SS);clear P8 FL FR AJ PP SS;go_wp2_with fail;go_roundw
           case rel=>exact⟨a1,m,l2,_,t,c5,rfl,rfl,rfl,rfl,rfl,by omega,by omega,by omega,uB,yD,G8,Ub⟩
           case measure=>simp[dS]<;>omega
structure rG(d:Array Int)(m k:Nat)(c:Array Int):Prop where
 rest:∀t,m<=t+1->c[t]! =d[t]!
 low:∀t,t<k->c[t]! <=d[m-1]!
 AU:∀i j,i<j->j<k->c[i]! <c[j]!
 sub:∀t,t<k->∃s,s<d.size/\c[t]! =d[s]!
 all:∀s,s<m->∃t,t<k/\c[t]! =d[s]!
theorem SR(h:SortedIn ltInt 0 n d)(cY:i<=j)(hj:j<n):d[i]! <=d[j]! :=by
 by_cases e:i=j
 ·rw[e];exact Cm _
 ·have:=h i j (Al _) (by omega) hj;rw[jd,Bb]at this;omega
theorem afD(h:SortedIn ltInt 0 n d)(hk:k<=n)(aB:∀i,1<=i->i<k->d[i]! ≠d[i-1]!)(cY:i<j)(hj:j<k):d[i]! <d[j]! :=by
 have h1:=SR h (show i<=j-1 by omega) (show j-1<n by omega);have h2:=SR h (show j-1<=j by omega) (show j<n by omega);have h3:=aB j (by omega) hj;omega
theorem rG.start(aB:∀i,1<=i->i<k->d[i]! ≠d[i-1]!)(h:SortedIn ltInt 0 n d)(hd:d.size=n)(h1:1<=k)(hk:k<n)(he:d[k]! =d[k-1]!):rG d (k+1) k d:=
 ⟨fun _ _=>rfl,fun t ht=>SR h (by omega) (by omega),fun i j cY hj=>afD h (by omega) aB cY hj,fun t ht=>⟨t,by omega,rfl⟩,fun s hs=>by
   by_cases e:s=k
   ·exact⟨k-1,by omega,by rw[e,he]⟩
   ·exact⟨s,by omega,rfl⟩⟩
theorem rG.qu(hI:rG d m k c)(h:SortedIn ltInt 0 n d)(hd:d.size=n)(h1:1<=m)(hm:m<n)(hk:k+1<=m)(he:c[m]! =c[m-1]!):rG d (m+1) k c:=by
 have e1:c[m]! =d[m]! :=hI.rest m (by omega);have e2:c[m-1]! =d[m-1]! :=hI.rest (m-1) (by omega);refine⟨fun t ht=>hI.rest t (by omega),fun t ht=>?_,hI.AU,hI.sub,fun s hs=>?_⟩
 ·have:=hI.low t ht;rw[Cz];omega
 ·by_cases e:s=m
  ·obtain⟨t,ht,hx⟩:=hI.all (m-1) (by omega);exact⟨t,ht,by rw[e];omega⟩
  ·exact hI.all s (by omega)
theorem rG.next(hI:rG d m k c)(aB:c[m]! ≠c[m-1]!)(h:SortedIn ltInt 0 n d)(hd:d.size=n)(hc:c.size=d.size)(hm:m<n)(hk:k+1<=m):rG d (m+1) (k+1) (c.setIfInBounds k c[m]!):=by
 have e1:c[m]! =d[m]! :=hI.rest m (by omega);have g1:∀t,t≠k->(c.setIfInBounds k c[m]!)[t]! =c[t]! :=fun t ht=>abN _ _ _ _ (fun e=>ht e.symm)
 have g2:(c.setIfInBounds k c[m]!)[k]! =d[m]! :=by rw[abO _ _ _ (by omega)];exact e1
 have up0:d[m-1]! <=d[m]! :=SR h (by omega) hm;have e3:c[m-1]! =d[m-1]! :=hI.rest (m-1) (by omega);have up:d[m-1]! <d[m]! :=by omega
 refine⟨fun t ht=>?_,fun t ht=>?_,fun i j cY hj=>?_,fun t ht=>?_,fun s hs=>?_⟩
 ·rw[g1 t (by omega)];exact hI.rest t (by omega)
 ·rw[Cz];by_cases e:t=k
  ·rw[e,g2];exact Cm _
  ·rw[g1 t e];have:=hI.low t (by omega);omega
 ·rw[g1 i (by omega)];by_cases e:j=k
  ·rw[e,g2];have:=hI.low i (by omega);omega
  ·rw[g1 j e];exact hI.AU i j cY (by omega)
 ·by_cases e:t=k
  ·rw[e,g2];exact⟨m,by omega,rfl⟩
  ·rw[g1 t e];exact hI.sub t (by omega)
 ·by_cases e:s=m
  ·exact⟨k,by omega,by rw[e];exact g2⟩
  ·obtain⟨t,ht,hx⟩:=hI.all s (by omega);exact⟨t,by omega,by rw[g1 t (by omega)];exact hx⟩
def tP(w:World)(g cap:Nat)(d:Array Int):Ending->World->Prop:=fun e w'=>∃cl:List Int,e=.returned (.slice (some (GB g 0)) cl.length cap)/\(∀i,(h:i<cl.length)->w'.cell? (GB g i)=some (.int .i32 cl[i]))/\cl.Pairwise (· < ·)/\(∀s,s<d.size->d[s]! ∈cl)/\(∀x∈cl,∃s,s<d.size/\x=d[s]!)/\aa (fun i=>i=g) w w'
theorem tP.Oh(hk:k<=c.size)(hkd:k<=d.size)(oD:∀t,t<k->w1.cell? (GB g t)=some (.int .i32 c[t]!))(GK:∀i j,i<j->j<k->c[i]! <c[j]!)(JZ:∀t,t<k->∃s,s<d.size/\c[t]! =d[s]!)(nP:∀s,s<d.size->∃t,t<k/\c[t]! =d[s]!)(hK:aa (fun i=>i=g) w w1):tP w g cap d (.returned (.slice (some (GB g 0)) k cap)) w1:=by
 have hl:((List.range k).map fun t=>c[t]!).length=k:=by simp
 refine⟨(List.range k).map fun t=>c[t]!,by rw[hl],fun i hi=>?_,?_,fun s hs=>?_,fun x hx=>?_,hK⟩
 ·rw[hl]at hi;rw[oD i hi];simp
 ·rw[Cj];intro i j hi hj cY;rw[hl]at hi hj;simp only[List.getElem_map,List.getElem_range];exact GK i j cY hj
 ·obtain⟨t,ht,hx⟩:=nP s hs;exact Be.2 ⟨t,Eu.2 ht,hx⟩
 ·obtain⟨t,ht,rfl⟩:=Be.1 hx;exact JZ t (Eu.1 ht)
theorem tP.all(aB:∀i,1<=i->i<n->d[i]! ≠d[i-1]!)(hd:d.size=n)(hs:SortedIn ltInt 0 n d)(h:cB w g 0 sz w1 d):tP w g cap d (.returned (.slice (some (GB g 0)) n cap)) w1:=
 tP.Oh (c:=d) (by omega) (by omega) (fun t ht=>by have:=h.row.ja.1 t (by omega);rw[Ba]at this;exact this) (fun i j cY hj=>afD hs (Ab _) aB cY hj) (fun t ht=>⟨t,by omega,rfl⟩) (fun s hs=>⟨s,by omega,rfl⟩) h.kept
theorem afk:∀(vs:List Value) (w1:World) (o t:Nat),t<o->(w1.setCells g o vs).cell? (GB g t)=w1.cell? (GB g t)
 | [],_,_,_,_=>rfl
 |v::vs,w1,o,t,h=>by
  refine(afk vs (w1.setCell (GB g o) v) (o+1) t (by omega)).trans ?_;exact World.cell?_setCell_other _ _ _ _ (by intro e;simp only[Addr.mk.injEq]at e;omega)
theorem tP.of{vs:List Value}(hd:d.size=n)(hc:c.size=n)(hk:k<=n)(hI:rG d m k c)(hm:m=n)(h:cB w g 0 sz w1 c):tP w g cap d (.returned (.slice (some (GB g 0)) k cap)) (w1.setCells g k vs):=
 tP.Oh (c:=c) (by omega) (by omega) (fun t ht=>(afk vs w1 k t ht).trans (by have:=h.row.ja.1 t (by omega);rw[Ba]at this;exact this)) hI.AU hI.sub (fun s hs=>hI.all s (by omega)) (aoB h.kept vs k)
theorem aoP(hd:d.size=n)(hR:iU w g 0 sz d)(hn:n<1000000000):
 Calls prog 99 #[.slice (some (GB g 0)) n cap] w fun e w'=>e=.returned (.tuple #[])/\Uu w g 0 sz 0 n d w':=by
 have F:=bP (adl n hn w);have hu:IntKind.u64.wrap (n:Int)=n:=by simp[IntKind.wrap,IntKind.bits,IntKind.signed];omega
 have HR:=bP hR;clear hR;go_enter func99,ntmps99;go_wp2_with fail;refine(F.o).mono ?_;rintro e w1 ⟨l,rfl,hl,rfl⟩;have F2:=bP (ani (cap:=cap) hn n w1 d 0 n l (by omega) hd (Or.inl rfl) HR.o (by omega) (Ab _) hl);go_wp2_with fail;refine(F2.o).mono ?_;rintro e w2 ⟨rfl,P⟩;go_wp2_with fail;go_end0;exact⟨rfl,P⟩
theorem ahR(hd:d.size=n)(WV:SortedIn ltInt 0 n d)(hR:iU w g 0 sz d)(hn:n<1000000000)(y_:n<=cap/\cap<=maxLen):
 Calls prog 100 #[.slice (some (GB g 0)) n cap] w (tP w g cap d):=by
 have lT:=bP (cB.refl hR);have Lz:=bP WV;have HD:=bP hd;clear hR WV hd;by_cases h2:n<2
 ·have hz:(n:Int)<2:=by omega
  go_enter func100,ntmps100
  go_wp2_with fail
  go_ret
  exact tP.all (fun i h1 h2=>by omega) HD.o Lz.o lT.o
 ·have hz:¬((n:Int)<2):=by omega
  go_enter func100,ntmps100
  go_wp2_with fail
  go_loopw [3] (fun vk wr=>∃k:Nat,vk=GW (k:Int)/\1<=k/\k<=n/\Hid (∀i,1<=i->i<k->d[i]! ≠d[i-1]!)/\Hid (cB w g 0 sz wr d)) (fun vk _=>n-(dS vk).toNat)
  case atStart=>exact⟨1,rfl,by omega,by omega,fun i h1 h2=>by omega,lT⟩
  case round=>
   clear lT;obtain⟨k,rfl,aU,aS,Lt,HW⟩:=hrel;by_cases hk:k<n
   ·have hzk:(k:Int)<(n:Int):=(by omega);obtain⟨GZ,JL⟩:=HW.o.row.ja;rw[HD.o]at GZ JL;obtain⟨G,vQ⟩:∃G:Nat->Int,∀t,G t=d[t]! :=⟨fun t=>d[t]!,fun _=>rfl⟩
    have pV:=bP vQ;have bl:∀t,t<n->wr.cell? (GB g t)=some (.int .i32 (G t)):=fun t ht=>by have:=GZ t ht;rw[vQ];simpa using this
    clear GZ JL vQ;have d0:=bl k hk;have d1:=bl (k-1) (by omega);go_wp2_with fail;go_quiet (first|(go_at_call 155;refine As (jF _ _ _)));have oZ:=bP (HW.o.drewN nq);clear bl d0 d1 HW;generalize wr.drewN nq=wr1 at oZ⊢;by_cases hG:G k=G (k-1)
    ·have Xe:(G k==G (k-1))=true:=(by simp[hG]);have Wr:(k:Int)<=(n:Int):=(by omega);have aqI:k<=cap:=(by omega);have IV:Hid (rG d (k+1) k d):=rG.start Lt.o Lz.o HD.o aU hk (by have h1:=pV.o k;have h2:=pV.o (k-1);omega);clear hG;go_wp2_with fail;go_loopw [3,5] (fun vk YX wr=>∃(k3 k2:Nat) (c:Array Int),vk=GW (k3:Int)/\YX=GW (k2:Int)/\1<=k2/\k2<=n-k/\k<=k3/\k3+1<=k+k2/\Hid (c.size=n)/\Hid (rG d (k+k2) k3 c)/\Hid (cB w g 0 sz wr c)) (fun _ YX _=>n-(dS YX).toNat)
     case atStart=>exact⟨k,1,d,rfl,rfl,by omega,by omega,by omega,by omega,HD,IV,oZ⟩
     case round=>
      obtain⟨k3,k2,c,rfl,rfl,cZ,gg,ri,qi,oJ,HC,dZ⟩:=hrel;clear oZ IV;obtain⟨GZ,JL⟩:=dZ.o.row.ja;rw[oJ.o]at GZ JL;obtain⟨G2,VC⟩:∃G2:Nat->Int,∀t,G2 t=c[t]! :=⟨fun t=>c[t]!,fun _=>rfl⟩
      have od:=bP VC;have bl:∀t,t<n->wr.cell? (GB g t)=some (.int .i32 (G2 t)):=fun t ht=>by have:=GZ t ht;rw[VC];simpa using this
      have bT:∀t,t<n->wr.frozen? (GB g t)=false:=fun t ht=>by have:=JL t ht;simpa using this
      clear GZ JL VC;by_cases aqG:k2<n-k
      ·have de:(k2:Int)<((n-k:Nat):Int):=(by omega);have d0:=bl (k+k2) (by omega);have d1:=bl (k+(k2-1)) (by omega);go_wp2_with fail;go_quiet (first|(go_at_call 155;refine As (jF _ _ _)));have vt:=bP (dZ.o.drewN nq);have c3:(wr.drewN nq).cell? (GB g k3)=some (.int .i32 (G2 k3)):=bl k3 (by omega);have f3:(wr.drewN nq).frozen? (GB g k3)=false:=bT k3 (by omega);have d2:(wr.drewN nq).cell? ⟨g,k+k2,none⟩=some (.int .i32 (G2 (k+k2))):=d0;clear bl bT d0 d1 dZ;generalize wr.drewN nq=wr2 at vt c3 f3 d2⊢;by_cases hG:G2 (k+k2)=G2 (k+(k2-1))
       ·have Xe:(G2 (k+k2) !=G2 (k+(k2-1)))=false:=(by simp[hG]);have iZ:Hid (rG d (k+(k2+1)) k3 c):=HC.o.qu Lz.o HD.o (by omega) (by omega) (by omega) (by have h1:=od.o (k+k2);have h2:=od.o (k+(k2-1));rw[show k+k2-1=k+(k2-1) by omega];omega);clear hG;go_wp2_with fail;go_roundw
        case rel=>exact⟨k3,k2+1,c,rfl,by go_num,by omega,by omega,by omega,by omega,oJ,iZ,vt⟩
        case measure=>simp[dS]<;>omega
       ·have Xe:(G2 (k+k2) !=G2 (k+(k2-1)))=true:=by simp[hG]
        have iZ:Hid (rG d (k+(k2+1)) (k3+1) (c.setIfInBounds k3 (G2 (k+k2)))):=by
         rw[od.o];exact HC.o.next (by have h1:=od.o (k+k2);have h2:=od.o (k+(k2-1));rw[show k+k2-1=k+(k2-1) by omega];omega) Lz.o HD.o (oJ.o.trans HD.o.symm) (by omega) (by omega)
        clear hG;go_wp2_with fail;go_roundw
        case rel=>exact⟨k3+1,k2+1,_,by go_num,by go_num,by omega,by omega,by omega,by omega,by rw[Array.size_setIfInBounds];exact oJ,iZ,bP (by have:=vt.o.put (t:=k3) (by have:=oJ.o;omega) (G2 (k+k2));rw[Ba]at this;exact this)⟩
        case measure=>simp[dS]<;>omega
      ·have de:¬((k2:Int)<((n-k:Nat):Int)):=by omega
       have fC:∀ty,(Builtin.clear_ #[96] ty #[.slice (some (GB g k3)) (n-k3) (cap-k3)]).run prog wr=.ok (.tuple #[]) (wr.setCells g k3 (List.replicate (n-k3) (.int .i32 0))):=
        fun ty=>Lib.run_clear_slice wr _ 21 ty _ underlying96 (by intro w;rfl) rfl rfl g k3 _ _ (by omega) (fun j hj=>by rw[bl (k3+j) (by omega)];rfl) (fun j hj=>bT (k3+j) (by omega))
       have bm:(k3:Int)<=(n:Int):=(by omega);have dJ:k3<=cap:=(by omega);have aA:=bP (tP.of (cap:=cap) (vs:=List.replicate (n-k3) (.int .i32 0)) HD.o oJ.o (by omega) HC.o (by omega) dZ.o);clear bl bT dZ;go_wp2_with fail;go_ret;exact aA.o
    ·have Xe:(G k==G (k-1))=false:=by simp[hG]
     have agj:Hid (∀i,1<=i->i<k+1->d[i]! ≠d[i-1]!):=fun i h1 h2=>by
      by_cases e:i=k
      ·rw[e,<-pV.o,<-pV.o];exact hG
      ·exact Lt.o i h1 (by omega)
     clear hG;go_wp2_with fail;go_roundw
     case rel=>exact⟨k+1,by go_num,by omega,by omega,agj,oZ⟩
     case measure=>simp[dS]<;>omega
   ·have hzk:¬((k:Int)<(n:Int)):=(by omega);go_wp2_with fail;go_ret;exact tP.all (fun i h1 h2=>Lt.o i h1 (by omega)) HD.o Lz.o HW.o
