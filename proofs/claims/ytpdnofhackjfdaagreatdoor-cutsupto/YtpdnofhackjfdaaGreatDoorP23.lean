/- Package whole's blocks -/
import Derived.Test.YtpdnofhackjfdaaGreatDoorP22
set_option linter.all false
set_option maxRecDepth 100000
set_option maxHeartbeats 4000000
namespace Go.Proofs.YtpdnofhackjfdaaGreatDoor
open Go.Proofs.Tryz
open Go.RowKit Go.Maps
variable {a:Act} {K:Act->World->Prop} {ops:Array Oper} {s:ByteArray} {c:Code} {Q:Exit->Act->World->Prop} {aD wf:List Nat} {xs:List Value} {N b ak i id ip k n:Nat} {o oL:Oper} {P:Program} {v v':Value} {W w w' w7 wr:World} {S:World->Prop}
structure zn(s:ByteArray)(aD:List Nat):Prop where
 pos:1<=aD.length
 zero:aD.getD 0 0=0
 step:∀k,k+1<aD.length->aD.getD k 0<=aD.getD (k+1) 0/\bd s (aD.getD (k+1) 0)<=bd s (aD.getD k 0)+4099
 wQ:4096*(aD.length-1)<=bd s (aD.getD (aD.length-1) 0)
 in_:∀k,aD.getD k 0<=(aF s).length
theorem IB(l:List Nat)(a k:Nat):(l++[a]).getD k 0=if k<l.length then l.getD k 0 else if k=l.length then a else 0:=by
 simp only[Af];by_cases h:k<l.length
 ·rw[if_pos h,A6 h]
 ·rw[if_neg h];by_cases e:k=l.length
  ·subst e;simp
  ·rw[if_neg e,Ci (by simp;omega)];rfl
theorem zn.start(s:ByteArray):zn s [0]:=⟨by simp,by simp,fun k h=>by simp at h,by simp[sC],fun k=>by cases k<;>simp⟩
theorem zn.push(h:zn s aD)(hi:i<=(aF s).length)(h1:aD.getD (aD.length-1) 0<=i)(h2:bd s i<=bd s (aD.getD (aD.length-1) 0)+4099):(1<=(aD++[i]).length/\(aD++[i]).getD 0 0=0/\(∀k,k+1<(aD++[i]).length->(aD++[i]).getD k 0<=(aD++[i]).getD (k+1) 0/\bd s ((aD++[i]).getD (k+1) 0)<=bd s ((aD++[i]).getD k 0)+4099)/\∀k,(aD++[i]).getD k 0<=(aF s).length):=by
 have hp:=h.pos;refine⟨by simp,by rw[IB,if_pos (by omega)];exact h.zero,fun k hk=>?_,fun k=>?_⟩
 ·rw[Aj,Ff]at hk;rw[IB,IB,if_pos (by omega)];by_cases e:k+1<aD.length
  ·rw[if_pos e];exact h.step k e
  ·rw[if_neg e,if_pos (by omega),show k=aD.length-1 by omega];exact⟨h1,h2⟩
 ·rw[IB];split
  ·exact h.in_ k
  ·split
   ·exact hi
   ·omega
structure NI(s:ByteArray)(aD:List Nat):Prop where
 cE:2<=aD.length
 zero:aD.getD 0 0=0
 eQ:aD.getD (aD.length-1) 0=(aF s).length
 step:∀k,k+1<aD.length->aD.getD k 0<=aD.getD (k+1) 0/\bd s (aD.getD (k+1) 0)<=bd s (aD.getD k 0)+4099
 bT:aD.length<=s.size/4096+2
 in_:∀k,aD.getD k 0<=(aF s).length
def ql(s:ByteArray)(aD:List Nat):List Value:=aD.map fun i=>Value.int .i64 (bd s i:Int)
theorem ZX(h:k<aD.length):(ql s aD)[k]? =some (.int .i64 (bd s (aD.getD k 0):Int)):=by
 unfold ql;simp[Af,Ae h]
theorem zn.done(h:zn s aD)(h1:aD.getD (aD.length-1) 0<=(aF s).length)(h2:s.size<=bd s (aD.getD (aD.length-1) 0)+4099):NI s (aD++[(aF s).length]):=by
 have hb:bd s (aF s).length=s.size:=nf (Ab _);obtain⟨a1,a2,a3,a4⟩:=h.push (Ab _) h1 (by rw[hb];exact h2);have hp:=h.pos;refine⟨by simp;omega,a2,by rw[IB];simp,a3,?_,a4⟩;have:=h.wQ;have:=iP s (aD.getD (aD.length-1) 0);rw[Aj,Ff];omega
structure pZ(w wr:World)(s:ByteArray)(v:Value)(aD:List Nat)(i ip:Nat):Prop where
 bg:zn s aD
 le:aD.getD (aD.length-1) 0<=i
 M7:bd s i<=bd s (aD.getD (aD.length-1) 0)+4099
 xl:i<=(aF s).length
 row:wr.ownsRow w.heap.size 3 1 v aD.length (ql s aD)
 iter:wr.heap[w.heap.size+1]? =some (.stringIter s ip)
 off:v.ownBlock≠some (w.heap.size+1)
 kept:aa af w wr
 size:w.heap.size+2<=wr.heap.size
theorem pZ.bT(h:pZ w wr s v aD i ip):aD.length<=s.size/4096+1:=by
 have:=h.bg.wQ;have:=iP s (aD.getD (aD.length-1) 0);have:=h.bg.pos;omega
theorem pZ.BL(h:pZ w wr s v aD i ip)(Gx:Nat):pZ w (wr.iterAt (w.heap.size+1) s Gx) s v aD i Gx:=by
 have k:aa (fun i=>i=w.heap.size+1) wr (wr.iterAt (w.heap.size+1) s Gx):=(aa.refl (fun i=>i=w.heap.size+1) wr).iterAt (k:=w.heap.size+1) (Or.inl rfl) s _;exact⟨h.bg,h.le,h.M7,h.xl,bR h.row k (fun b hb hx=>h.off (by rw[hb,hx])),Lib.iterAt_heap wr _ s _ _ h.iter,h.off,h.kept.bV k (fun i hi he=>by omega),by rw[Fq];exact h.size⟩
theorem pZ.next(h:pZ w wr s v aD i ip)(hi:i<(aF s).length)(hb:bd s i<bd s (aD.getD (aD.length-1) 0)+4096):pZ w wr s v aD (i+1) ip:=by
 have bt:=pE hi;exact⟨h.bg,by have:=h.le;omega,by omega,hi,h.row,h.iter,h.off,h.kept,h.size⟩
theorem pZ.Ng(h:pZ w wr s v aD i ip)(hi:i<(aF s).length)(hb:bd s (aD.getD (aD.length-1) 0)+4096<=bd s i)(k0:aa af wr W)
 (bk:w7.ownsRow w.heap.size 3 1 v' (aD.length+1) (ql s aD++[.int .i64 (bd s i:Int)]))(hg:W.grownBy w7 v.ownBlock)(cx:v'.ownBlock=v.ownBlock\/v'.ownBlock=some W.heap.size):pZ w w7 s v' (aD++[i]) (i+1) ip:=by
 have k7:aa (fun j=>v.ownBlock=some j) wr w7:=(k0.mono (fun i hx=>hx.elim)).eN hg (fun j hj=>Or.inl hj);obtain⟨a1,a2,a3,a4⟩:=h.bg.push h.xl h.le h.M7;have hl:(aD++[i]).getD ((aD++[i]).length-1) 0=i:=by rw[IB];simp
 have aiH:=h.bg.wQ;have xc:=h.bg.pos;have bt:=pE hi;refine⟨⟨a1,a2,a3,by rw[hl,Aj,Ff];omega,a4⟩,by rw[hl];omega,by rw[hl];omega,hi,?_,(k7.block _ (by have:=h.size;omega) h.off).trans h.iter,?_,h.kept.bV k7 (fun j hj he=>by have:=(dw h.row he).1;omega),Be h.size k7.size⟩
 ·rw[Aj];have:ql s (aD++[i])=ql s aD++[.int .i64 (bd s i:Int)]:=by simp[ql]
  rw[this];exact bk
 ·rcases cx with e|e
  ·rw[e];exact h.off
  ·rw[e];intro hx;have:=C6 hx;have:=h.size;have:=k0.size;omega
theorem pZ.done(h:pZ w wr s v aD (aF s).length ip)(k0:aa af wr W)
 (bk:w7.ownsRow w.heap.size 3 1 v' (aD.length+1) (ql s aD++[.int .i64 (s.size:Int)]))(hg:W.grownBy w7 v.ownBlock):aa af w w7/\w7.ownsRow w.heap.size 3 1 v' (aD++[(aF s).length]).length (ql s (aD++[(aF s).length]))/\NI s (aD++[(aF s).length]):=by
 have k7:aa (fun j=>v.ownBlock=some j) wr w7:=(k0.mono (fun i hx=>hx.elim)).eN hg (fun j hj=>Or.inl hj);have hb:bd s (aF s).length=s.size:=nf (Ab _);refine⟨h.kept.bV k7 (fun j hj he=>by have:=(dw h.row he).1;omega),?_,h.bg.done h.le (by rw[<-hb];exact h.M7)⟩;have:ql s (aD++[(aF s).length])=ql s aD++[.int .i64 (s.size:Int)]:=by simp[ql,hb]
 rw[this,Aj];exact bk
theorem af_(s:ByteArray)(w:World)(hs:s.size<=1000000000):
 Calls prog 85 #[.string s] w fun e w'=>∃(v:Value) (aD:List Nat),e=.returned v/\aa af w w'/\w'.ownsRow w.heap.size 3 1 v aD.length (ql s aD)/\NI s aD:=by
 obtain⟨i0,cP,di,dj,cY⟩:=Bo Tryz.Gw
 have dr:Hid (pZ w ((w.alloc (.cells #[.int .i64 0] 3)).iter s 0) s (.slice (some ⟨w.heap.size,0,none⟩) 1 1) [0] 0 (bd s 0)):=by
  refine⟨zn.start s,Ab _,by simp,Am _,?_,?_,?_,((aa.refl af w).alloc _).alloc _,by simp[World.iter]⟩
  ·refine⟨by simp[ql],Or.inr ⟨w.heap.size,1,#[.int .i64 0],rfl,Ab _,?_,Ab _,by unfold maxLen;omega,by simp,by simp[ql,sC]⟩⟩;exact(aq.new w #[.int .i64 0] 3).alloc _
  ·have:=World.iter_heap (w.alloc (.cells #[.int .i64 0] 3)) s 0;rw[fF]at this;rw[sC];exact this
  ·intro hx;have:w.heap.size=w.heap.size+1:=C6 hx;omega
 go_in
 go_wp2_with fail
 go_loopg [3] (aF s).length (fun kk v wr=>∃(i:Nat) (aD:List Nat),Hid (pZ w wr s v aD i (bd s i))/\kk=(aF s).length-i)
 case atStart=>exact⟨0,[0],dr,rfl⟩
 case round=>
  obtain⟨i,aD,HB,eT⟩:=hrel;clear dr;have hi:=HB.out.xl;have dh:=HB.out.bT;have xc:=HB.out.bg.pos;by_cases aw:i<(aF s).length
  ·have aS:=wL aw;have hn:=(fun ty=>Lib.run_next_any_at (P:=prog) wr (w.heap.size+1) s (bd s i) ty HB.out.iter aS);rw[<-tJ aw]at hn;have iA:=ab (HB.out.BL (bd s (i+1)));obtain⟨w1,pO⟩:∃w1,w1=wr.iterAt (w.heap.size+1) s (bd s (i+1)):=⟨_,rfl⟩
   rw[<-pO]at hn iA;clear pO HB;generalize((Utf8.decode s (bd s i)).1:Int)=cc at hn;obtain⟨g,c,hv,l1,l2,l3,l4,l5⟩:=my iA.out.row (by omega);subst hv;obtain⟨n,o9⟩:∃n,aD.length=n+1:=⟨aD.length-1,by omega⟩
   have cl:w1.cell? ⟨g,n,none⟩=some (.int .i64 (bd s (aD.getD n 0):Int)):=(by rw[l4 n (by omega),ZX (by omega)]);have AL:aD.length-1=n:=(by omega);have gz:=iP s (aD.getD n 0);have PU:=(ab fun(h:bd s (aD.getD n 0)+4096<=bd s i) {W w7:World} {v':Value}=>iA.out.Ng (W:=W) (w7:=w7) (v':=v') aw (by rw[AL];exact h));have NX:=(ab fun(h:bd s i<bd s (aD.getD n 0)+4096)=>iA.out.next aw (by rw[AL];exact h));have fi:=ab iA.out.row;have qX:=ab iA.out.size;clear l4 l5 AL;rw[o9]at fi PU NX dh⊢;have uM:=ab o9;clear o9 xc l3;generalize ua:bd s (aD.getD n 0)=lb at*;clear ua;by_cases im:lb+4096<=bd s i
   ·have aiJ:(lb:Int)+4096<=(bd s i:Int):=(by omega);go_wp2_with (at_builtin;refine Ao _ rfl _ _ 22 rfl w.heap.size 3 i0 _ 1 8 underlying22 cP di dj cY rfl (by decide) _ _ _ rfl (fi.out.alloc _) ⟨w1.heap.size,0,none⟩ 1 1 [.int .i64 (bd s i:Int)] rfl rfl ?c1 ?c2 ?c3 ?c4 ?c5 ?_)
    case c1=>exact GK _ _
    case c2=>exact vJ _
    case c3=>unfold maxLen;omega
    case c4=>omega
    case c5=>have:=qX.out;simp;omega
    intro v' w7 bG bY dX cx;obtain⟨jd,c',rfl⟩:=cA bG;have ax:=ab (PU.out im ((aa.refl af w1).alloc _) bG bY (by simpa using cx));clear bG bY dX cx;go_wp2_with fail;go_roundg ((aF s).length-(i+1))
    case measure=>omega
    case rel=>exact⟨i+1,_,ax,rfl⟩
   ·have aiJ:¬(lb:Int)+4096<=(bd s i:Int):=(by omega);have ax:=ab (NX.out (by omega));go_wp2_with fail;go_roundg ((aF s).length-(i+1))
    case measure=>omega
    case rel=>exact⟨i+1,_,ax,rfl⟩
  ·have hi':i=(aF s).length:=(by omega);subst hi';have f_:bd s (aF s).length=s.size:=nf (Ab _);have hn:=(fun ty=>Lib.run_next_end_at (P:=prog) wr (w.heap.size+1) s (bd s (aF s).length) ty HB.out.iter (by omega));obtain⟨ao,c,rfl⟩:=cA HB.out.row;have qX:=ab HB.out.size;have FI:=(ab fun(W w7:World) (v':Value)=>HB.out.done (W:=W) (w7:=w7) (v':=v'));have fi:=ab HB.out.row;clear f_;go_wp2_with (at_builtin;refine Ao _ rfl _ _ 22 rfl w.heap.size 3 i0 _ 1 8 underlying22 cP di dj cY rfl (by decide) _ _ _ rfl (fi.out.alloc _) ⟨wr.heap.size,0,none⟩ 1 1 [.int .i64 (s.size:Int)] rfl rfl ?c1 ?c2 ?c3 ?c4 ?c5 ?_)
   case c1=>exact GK _ _
   case c2=>exact vJ _
   case c3=>unfold maxLen;omega
   case c4=>omega
   case c5=>have:=qX.out;simp;omega
   intro v' w7 bG bY dX cx;obtain⟨jd,c',rfl⟩:=cA bG;have ax:=ab (FI.out _ _ _ ((aa.refl af wr).alloc _) bG bY);clear bG bY dX cx;go_wp2_with fail;go_ret;exact⟨_,_,rfl,ax.out.1,ax.out.2.1,ax.out.2.2⟩
attribute [local go_sem] Ew
def jO(a b:Nat)(W W':World):Prop:=W'.heap[a]? =W.heap[a]? /\W'.heap[b]? =W.heap[b]?
theorem jO.refl(a b:Nat)(W:World):jO a b W W:=⟨rfl,rfl⟩
theorem jO.trans{a:Nat}{A B C:World}(h:jO a b A B)(k:jO a b B C):jO a b A C:=⟨k.1.trans h.1,k.2.trans h.2⟩
theorem jO.putObj{a:Nat}(ha:a<w.heap.size)(hb:b<w.heap.size)(W:World)(l:Nat)(o o':Obj)(hl:w.heap.size<=l)(h:W.heap[l]? =some o)(_:o.isCells=false)(_:o.isWalk=false):jO a b W (W.putObj l o'):=
 ⟨De (by omega),De (by omega)⟩
theorem jO.cell{a:Nat}{W':World}(h:jO a b W W'):W'.cell? ⟨a,0,none⟩=W.cell? ⟨a,0,none⟩/\W'.cell? ⟨b,0,none⟩=W.cell? ⟨b,0,none⟩:=⟨Bz (w:=W) h.1,Bz (w:=W) h.2⟩
def se(WB L r:Nat):Value:=.slice (some ⟨WB,r*L,none⟩) L L
theorem agN(n:Nat)(hn:1<=n)(l Bs Bn WB N L NL:Nat)(z_:NL=N*L)(hL:0<L)(xe:NL<=10000000)(J Jx:List Nat->World->Prop)
 (hY:∀pre x W,J pre W->pre.length<N->YieldAt Fence.wide (n-1) prog l #[se WB L x] W fun e W'=>
   (e=.returned (.bool true)/\J (pre++[x]) W'/\jO Bs Bn W W')\/(e=.returned (.bool false)/\Jx (pre++[x]) W'))
 (W:World)(c1:W.cell? ⟨Bs,0,none⟩=some (.slice (some ⟨WB,0,none⟩) NL NL))(c2:W.cell? ⟨Bn,0,none⟩=some (.int .i64 (L:Int)))(hJ:AbidesFrom W.heap.size J)(h0:J [] W):
 CallsIn Fence.wide n prog 137 #[.func (.yield l) #[] #[],.pointer (some ⟨Bs,0,none⟩),.pointer (some ⟨Bn,0,none⟩)] W fun e W'=>(∃v,e=.returned v)/\
  ((∃ys,ys=List.range N/\J ys W')\/(∃pre,pre<+:List.range N/\Jx pre W')):=by
 refine callsIn_of_wp func137 rfl trivial ?_ rfl;simp only[ntmps137,Dh,Ax,Bb,Nat.reduceAdd,Nat.reduceSub,Db,Dc,Du,Dj,Dk,C1];have Oe:=ab z_;clear z_;gi_wp2
 gi_loopw [4] (fun i wr=>∃k p:Nat,k<=N/\Hid (p=k*L)/\i=.int .i64 (p:Int)/\Hid (J (List.range k) wr)/\Hid (jO Bs Bn W wr))
  (fun i _=>NL-(intOf i).toNat)
 case atStart=>exact⟨0,0,Am _,(by show _=_;omega),rfl,h0,jO.refl _ _ _⟩
 case round=>
  obtain⟨k,p,hk,HP,rfl,Kc,HB⟩:=hrel;have d1:wr.cell? ⟨Bs,0,none⟩=some (.slice (some ⟨WB,0,none⟩) NL NL):=HB.out.cell.1.trans c1;have d2:wr.cell? ⟨Bn,0,none⟩=some (.int .i64 (L:Int)):=HB.out.cell.2.trans c2;by_cases aw:k<N
  ·have hpL:p+L<=NL:=by
    have:=Bq L (show k+1<=N by omega);rw[HP.out,Oe.out];rw[Cq]at this;omega
   gi_wp2
   gi_big_quiet (fail)
   have U_:min (L:Int) ((NL-p:Nat):Int)=(L:Int):=(by omega);rw[U_];clear U_;have Pl:J (List.range k) (wr.drewN nq):=hJ _ wr _ none Kc.out ⟨rfl,rfl,rfl,Ab _,fun _ _ _=>rfl⟩ (fun r e=>by cases e);obtain⟨fn,tmps,assign,body,hy,hR⟩:=hY _ k _ Pl (by simp;omega);have HR:=ab hR;clear hR;have wZ:k*L=p:=HP.out.symm;simp only[se]at hy;rw[wZ]at hy;clear wZ Pl;have e1:(wr.drewN nq).cell? ⟨Bs,0,none⟩=some (.slice (some ⟨WB,0,none⟩) NL NL):=d1;gi_wp2;refine HR.out.mono ?_;rintro e W3 (⟨rfl,EA,bA⟩|⟨rfl,hJx3⟩)
   ·have e2:W3.cell? ⟨Bn,0,none⟩=some (.int .i64 (L:Int)):=bA.cell.2.trans d2;have Sq:=ab EA;have iO:=ab bA;clear EA bA e1 d1 d2 hy;gi_wp2;go_roundw
    case rel=>exact⟨k+1,p+L,by omega,(by show _=_;rw[HP.out,Cq];omega),by simp,(by rw[Fr];exact Sq),HB.out.trans ((show jO Bs Bn wr (wr.drewN nq)from⟨rfl,rfl⟩).trans iO.out)⟩
    case measure=>simp[intOf];omega
   ·gi_wp2
    refine Bj (Df rfl _ _ _) rfl ?_;refine⟨⟨_,rfl⟩,.inr ⟨_,?_,hJx3⟩⟩;rw[<-Fr];have:List.range (k+1)=(List.range N).take (k+1):=by rw[List.take_range];congr 1;omega
    rw[this];exact List.take_prefix _ _
  ·have wZ:p=NL:=(by rw[HP.out,Oe.out,show k=N by omega]);have ax:Hid (J (List.range N) wr):=by rw[<-show k=N by omega];exact Kc
   subst wZ;gi_wp2;go_end0;exact⟨⟨_,rfl⟩,.inl ⟨_,rfl,ax.out⟩⟩
theorem agP(n:Nat)(hn:1<=n)(Bs Bn WB N L NL:Nat)(z_:NL=N*L)(hL:0<L)(xe:NL<=10000000)(w:World)(tO:Bs<w.heap.size)(hBn:Bn<w.heap.size)
 (c1:w.cell? ⟨Bs,0,none⟩=some (.slice (some ⟨WB,0,none⟩) NL NL))(c2:w.cell? ⟨Bn,0,none⟩=some (.int .i64 (L:Int))):
 SeqStopsK Fence.wide n prog 137 #[.pointer (some ⟨Bs,0,none⟩),.pointer (some ⟨Bn,0,none⟩)] (fun x:Nat=>#[se WB L x]) (jO Bs Bn) (fun ys=>ys=List.range N) (fun pre=>pre<+:List.range N) N w:=fun l J Jx W hW hJ _ hY h0=>
 agN n hn l Bs Bn WB N L NL z_ hL xe J Jx hY W ((hW.cell (p:=⟨Bs,0,none⟩) tO).trans c1) ((hW.cell (p:=⟨Bn,0,none⟩) hBn).trans c2) hJ h0
theorem agO(w:World)(a:Option Addr)(NL c L:Nat)(hL:0<L)(hL2:L<=10000000):Calls prog 110 #[.slice a NL c,.int .i64 (L:Int)] w fun e w'=>e=.returned (.func (.func 137) #[] #[.pointer (some ⟨w.heap.size,0,none⟩),.pointer (some ⟨w.heap.size+1,0,none⟩)])/\w'=(w.alloc (.cells #[.slice a NL c] 173)).alloc (.cells #[.int .i64 (L:Int)] 3):=by
 have c2:((w.alloc (.cells #[.slice a NL c] 173)).alloc (.cells #[.int .i64 (L:Int)] 3)).cell? ⟨w.heap.size+1,0,none⟩=some (.int .i64 (L:Int)):=by
  have:=(aq.new (w.alloc (.cells #[.slice a NL c] 173)) #[.int .i64 (L:Int)] 3).cell 0;rw[fF]at this;exact this
 go_in
 go_wp2_with fail
 go_ret
 exact⟨rfl,rfl⟩
theorem Tryz.ajP:(prog.info? 207).map (fun i=>(i.zero,i.size,i.bytes))=some (some (.int .u64 0),1,8):=by kernel_rfl
theorem Tryz.ajN:(prog.info? 173).map (fun i=>(i.zero,i.size,i.bytes))=some (some (.slice none 0 0),1,24):=by kernel_rfl
theorem akB(n:Nat):madeCells #[.int .u64 0] n=(de (List.replicate n 0)).toArray:=by
 unfold madeCells de;refine Array.ext (by simp) fun k h1 h2=>?_
 simp[Gd]
theorem agj{w2 w1:World}{B:Nat}{t e:TypeId}{m:Nat}{ys:List Value}{tmp:Obj}(hv:Boxed W B t v)(dL:W.ownsRow w2.heap.size e 1 v k xs)(hB:aa (fun i=>i=B) w2 W)(T7:B<w2.heap.size)(bG:w1.ownsRow w2.heap.size e 1 v' m ys)(bY:(W.alloc tmp).grownBy w1 v.ownBlock):
 Boxed w1 B t v/\Boxed (w1.setCell ⟨B,0,none⟩ v') B t v'/\(w1.setCell ⟨B,0,none⟩ v').ownsRow w2.heap.size e 1 v' m ys/\KeepsOthers W (w1.setCell ⟨B,0,none⟩ v')/\aa (fun i=>i=B) w2 (w1.setCell ⟨B,0,none⟩ v')/\(∀j,j<w2.heap.size->j≠B->(w1.setCell ⟨B,0,none⟩ v').heap[j]? =W.heap[j]?):=by
 have hg:∀i,v.ownBlock=some i->w2.heap.size<=i:=fun i hi=>(dw dL hi).1
 have ml:Boxed w1 B t v:=(hv.alloc tmp).kept bY (fun e=>by have:=hg B e.symm;omega);have k1:aa (fun i=>v.ownBlock=some i) W w1:=((aa.refl _ W).alloc tmp).eN bY (fun j hj=>Or.inl hj);have k2:aa (fun i=>i=B) w1 (w1.setCell ⟨B,0,none⟩ v'):=(aa.refl (fun i=>i=B) w1).setCell (p:=⟨B,0,none⟩) (Or.inl rfl) v';have hs:=hB.size;have cR:=k1.size;refine⟨ml,ml.set v',bR bG k2 (fun b hb e=>by have:=(dw bG hb).1;omega),?_,(hB.bV k1 (fun i hi he=>by have:=hg i he;omega)).trans k2,fun j hj hjB=>(k2.block j (by omega) hjB).trans (k1.block j (by omega) (fun e=>by have:=hg j e;omega))⟩;refine((KeepsOthers.alloc W tmp).trans (KeepsOthers.of_grownBy bY fun j o ej hj=>?_)).trans (KeepsOthers.setCell _ _ _);rcases(dL.alloc tmp).2 with⟨rfl,_⟩|⟨g,cap,aL,rfl,_,kO,_⟩
 ·simp[Value.ownBlock]at ej
 ·obtain rfl:g=j:=by simpa[Value.ownBlock]using ej
  rw[kO]at hj;cases hj;rfl
theorem xy{b' e size:Nat}(h:w.ownsRow b e size v n xs)(hb:b'<=b):w.ownsRow b' e size v n xs:=by
 refine⟨h.1,?_⟩;rcases h.2 with h2|⟨g,cap,aL,h3,h4,h5⟩
 ·exact Or.inl h2
 ·exact Or.inr ⟨g,cap,aL,h3,Be hb h4,h5⟩
def SO(w:World)(base:Nat)(v:Value)(N L WB:Nat):Prop:=w.ownsRow base 173 1 v N ((List.range N).map (se WB L))
theorem ala(n:Nat)(hn:3<=n)(N st L NL:Nat)(hL:L=st/64+1)(z_:NL=N*L)(hN:N<=100000)(bt:st<=4001)(xe:NL<=10000000)(w:World):
 CallsIn Fence.wide n prog 86 #[.int .i64 (N:Int),.int .i64 (st:Int)] w fun e W'=>∃v,e=.returned v/\SO W' (w.heap.size+1) v N L w.heap.size/\aq W' w.heap.size (de (List.replicate NL 0)).toArray 207/\Below w.heap.size w W':=by
 have h1:1<=n:=by omega
 obtain⟨i0,hi,di,dj,cY⟩:=Bo Tryz.ajN;have hdiv:(st:Int) /64+1=(L:Int):=by omega
 have hmul:(N:Int)*(L:Int)=(NL:Int):=by rw[z_];simp
 have qA:=fun W=>Go.run_make_row' (P:=prog) 173 207 (.int .u64 0) 8 underlying173 Tryz.ajP rfl .i64 .i64 NL (by omega) (by omega) W
 have Oe:=ab z_;have HL:=ab hL;have Pp:0<L:=by omega
 clear z_ hL;refine callsIn_of_wp_marks func86 rfl trivial ?_ rfl;simp only[ntmps86,Dh,Ax,Bb,Nat.reduceAdd,Nat.reduceSub,Db,Dc,Du,Dj,Dk,C1];gi_wp2;refine⟨trivial,(Fv.2 (agO _ (some ⟨w.heap.size,0,none⟩) NL NL L Pp (by have:=HL.out;omega))).mono ?_⟩;rintro e w2 ⟨rfl,pP⟩;have aju:w2.heap.size=w.heap.size+4:=by rw[pP];simp
 have oc:Below w.heap.size w w2:=by
  rw[pP];exact((((Fp _ w).alloc (Ab _) _).alloc (by simp) _).alloc (by simp;omega) _).alloc (by simp;omega) _
 have bW:aq w2 w.heap.size (de (List.replicate NL 0)).toArray 207:=by
  rw[pP,<-akB];exact(((aq.new w _ _).alloc _).alloc _).alloc _
 have bO:Boxed w2 (w.heap.size+1) 168 (.slice none 0 0):=by
  rw[pP];have:=((Boxed.new (w.alloc (.cells (madeCells #[.int .u64 0] NL) 207)) 168 (.slice none 0 0)).alloc (.cells #[.slice (some ⟨w.heap.size,0,none⟩) NL NL] 173)).alloc (.cells #[.int .i64 (L:Int)] 3);simpa using this
 have c1:w2.cell? ⟨w.heap.size+1+1,0,none⟩=some (.slice (some ⟨w.heap.size,0,none⟩) NL NL):=by
  rw[pP];have:=((aq.new ((w.alloc (.cells (madeCells #[.int .u64 0] NL) 207)).alloc (.cells #[.slice none 0 0] 168)) #[.slice (some ⟨w.heap.size,0,none⟩) NL NL] 173).alloc (.cells #[.int .i64 (L:Int)] 3)).cell 0;simpa using this
 have c2:w2.cell? ⟨w.heap.size+1+1+1,0,none⟩=some (.int .i64 (L:Int)):=by
  rw[pP];have:=(aq.new (((w.alloc (.cells (madeCells #[.int .u64 0] NL) 207)).alloc (.cells #[.slice none 0 0] 168)).alloc (.cells #[.slice (some ⟨w.heap.size,0,none⟩) NL NL] 173)) #[.int .i64 (L:Int)] 3).cell 0;simpa using this
 have cR:((w.alloc (.cells (madeCells #[.int .u64 0] NL) 207)).alloc (.cells #[.slice none 0 0] 168)).heap.size=w.heap.size+1+1:=by simp
 rw[cR];clear pP cR qA;gi_wp2
 refine wpIn_rangeFunc_ownH rfl h1 (gf:=137) (lb:=#[.pointer (some ⟨w.heap.size+1+1,0,none⟩),.pointer (some ⟨w.heap.size+1+1+1,0,none⟩)]) rfl trivial (enters_of func137 (by kernel_rfl) rfl)
  (agP (n-1) (by omega) (w.heap.size+1+1) (w.heap.size+1+1+1) w.heap.size N L NL Oe.out Pp xe w2 (by omega) (by omega) c1 c2) jO.trans (jO.putObj (by omega) (by omega)) (Fp _ _) (fun _=>rfl)
  (fun pre W=>(∃v,Boxed W (w.heap.size+1) 168 v/\W.ownsRow w2.heap.size 173 1 v pre.length (pre.map (se w.heap.size L))/\True)/\aa (fun i=>i=w.heap.size+1) w2 W)
  (fun _ _ _=>False)
  (OwnFrom.and (Own.from (holdsRow_own w2.heap.size (w.heap.size+1) 168 173 1 (fun(pre:List Nat)=>pre.length) (fun pre=>pre.map (se w.heap.size L)) (fun pre v=>True)) _) (fun s W W' row h hg hr=>h.eN hg (fun k e=>Or.inr (hr k e).1)))
  (fun _ _ _ _ _ hs _ _=>hs)
  ⟨⟨_,bO,A7 _ _ _ _,trivial⟩,aa.refl _ _⟩
  (fun x a' W=>a'={tmps:=#[.int .i64 (N:Int),.int .i64 (st:Int),undef,undef,.slice none 0 0,.int .i64 (L:Int),.slice (some ⟨w.heap.size,0,none⟩) NL NL,.pointer (some ⟨w.heap.size+1,0,none⟩),se w.heap.size L x,.int .i64 (st:Int),.int .i64 ((st:Int) /64),.int .i64 (L:Int),.int .i64 (N:Int),.int .i64 (L:Int),.int .i64 (NL:Int),.slice (some ⟨w.heap.size,0,none⟩) NL NL,.slice (some ⟨w.heap.size,0,none⟩) NL NL,.int .i64 (L:Int),.func (.func 137) #[] #[.pointer (some ⟨w.heap.size+1+1,0,none⟩),.pointer (some ⟨w.heap.size+1+1+1,0,none⟩)],se w.heap.size L x,undef,undef,undef,undef,undef],defers:=[]})
  (fun x a' _ X Y row hs hg hr=>hs)
  ?assign ?body ?done ?stop
 case assign=>
  rintro l pre x W K ⟨⟨v,hv,dL,_⟩,hB⟩ hK;gi_wp2;exact hK _ _ ((KeepsOthers.refl _).from _) (jO.refl _ _ _) ⟨⟨v,hv,dL,trivial⟩,hB⟩ rfl
 case body=>
  rintro l pre x a' W hl ⟨r,hr⟩ ⟨⟨v,hv,dL,_⟩,hB⟩ rfl aw;have hc:=hv.cell;have I7:=hB.size;simp only[se];gi_wp2_with (gi_at_builtin;refine wpListIn_append_own _ rfl _ _ 168 rfl w2.heap.size 173 i0 (.slice none 0 0) 1 24 underlying168 hi di dj cY rfl (by decide) _ _ _ rfl (dL.alloc _) ⟨W.heap.size,0,none⟩ 1 1 [.slice (some ⟨w.heap.size,x*L,none⟩) L L] rfl rfl (fun j u h=>uy _ _ _ j u h) (by simp[Value.oneCell']) (by unfold maxLen;omega) (by omega) (by simp;omega) ?_;intro v' w1 bG bY _;obtain⟨g',KZ,rfl⟩:=ownsRow_succ bG;obtain⟨ml,nI,rK,aO,od,lL⟩:=agj hv dL hB (by omega) bG bY;have nD:=ml.cell;have hf1:=ml.frozen);refine⟨aO.from _,⟨lL _ (by omega) (by omega),lL _ (by omega) (by omega)⟩,⟨⟨_,nI,?_,trivial⟩,od⟩⟩;simpa[se]using rK
 case done=>
  rintro D ys W hD rfl ⟨⟨v,hv,dL,dX⟩,hB⟩ hK;have hc:=hv.cell;gi_wp2;refine⟨by simp,.inl ⟨_,_,rfl,run_takeDeferred hK,?_⟩⟩;have I7:=hB.size;refine⟨_,results_tmp rfl _ _ _,v,rfl,?_,?_,?_⟩
  ·have:=ownsRow_putObj dL (.deferred none) hK rfl;rw[List.length_range]at this;exact xy this (by omega)
  ·have h2:aq W w.heap.size (de (List.replicate NL 0)).toArray 207:=bW.kept hB (by omega);exact(De (by omega)).trans h2
  ·exact(oc.trans (hB.below (by omega) (fun k hk e=>by omega))).trans (belowK_b (w:=w) (Ab _) W D _ _ (by omega) hK rfl rfl)
 case stop=>
  rintro D c pre W _ _ h _;exact h.elim
theorem Wd(N st L:Nat)(hL:L=st/64+1)(hN:N<=100000)(bt:st<=4001)(w:World):
 Calls prog 86 #[.int .i64 (N:Int),.int .i64 (st:Int)] w fun e W'=>∃v,e=.returned v/\SO W' (w.heap.size+1) v N L w.heap.size/\aq W' w.heap.size (de (List.replicate (N*L) 0)).toArray 207/\aa af w W':=by
 have hm:N*L<=100000*63:=Nat.mul_le_mul hN (by omega);refine(Fv.1 (ala 6 (by omega) N st L (N*L) hL rfl hN bt (by omega) w)).mono ?_;rintro e W' ⟨v,h1,h2,h3,h4⟩;exact⟨v,h1,h2,h3,Below.kept h4 rfl⟩
end Go.Proofs.YtpdnofhackjfdaaGreatDoor
namespace Go.Proofs.YtpdnofhackjfdaaGreatDoor
open Go.Proofs.Tryz
variable {a:Act} {K:Act->World->Prop} {ops:Array Oper} {s:ByteArray} {c:Code} {Q:Exit->Act->World->Prop} {aD wf:List Nat} {xs:List Value} {N b ak i id ip k n:Nat} {o oL:Oper} {P:Program} {v v':Value} {W w w' w7 wr:World} {S:World->Prop}
def FR(ro:Option Nat):Fence:={Fence.wide with round:=ro}
def Jr(ops:Array Oper):Bool:=ops.all fun o=>match o.op with|.defer _=>false|_=>true
theorem ale(h:Jr ops=true)(ho:ops[i]? =some o):∀c,o.op≠.defer c:=by
 intro c hc;unfold Jr at h;rw[Array.all_eq_true]at h;obtain⟨aw,e⟩:=Ak.1 ho;have:=h i aw;rw[e,hc]at this
 cases this
theorem aox(ro:Option Nat)(n:Nat)(r:Result Next)(h:o.upon P a K Q r):o.uponIn (FR ro) n P a K Q r:=by
 cases r with
 |ok x w'=>
  cases x with
  |value v=>exact h
  |skip=>exact h
  |defer d=>exact h
  |enter f args=>exact⟨fun hx=>(by cases hx),(Fv.2 h:CallsIn Fence.wide (n-1) P f args w' _)⟩
  |row row args=>exact⟨fun hx=>(by cases hx),fun c cs _=>(by obtain⟨v,w2,hR,hS⟩:=h c cs;exact⟨v,w2,hR,stepsIn_wide.2 hS⟩)⟩
  |_=>exact h.elim
 |halt x w'=>
  cases x<;>first|exact h|exact h.elim
theorem ao0(ro:Option Nat)(n:Nat)(hQ:¬LetsOut Q)(hd:Jr ops=true){K':Act->World->Prop}(hK:∀a w,K a w->K' a w)(h:wpOp P ops Q i K a w):wpOpIn (FR ro) n P ops Q i K' a w:=by
 refine wpOpIn_mono hK ?_;unfold wpOp at h;unfold wpOpIn
 cases ho:ops[i]? with
 |none=>rw[ho]at h;exact h
 |some o=>
  rw[ho]at h;simp only at h⊢;split
  ·rename_i hw
   rw[if_pos hw]at h;unfold Oper.wpIn;refine⟨fun _ _=>trivial,?_⟩;rw[Oper.semAt_plain _ _ _ (ale hd ho)];exact aox ro n _ (h.resolve_right fun hx=>hQ hx.2)
  ·rename_i hw
   rw[if_neg hw]at h;exact⟨fun _ _=>trivial,h⟩
theorem afm{md:Region.Mode}(ro:Option Nat)(n:Nat)(hQ:¬LetsOut Q)(hd:Jr ops=true):∀(fuel:Nat) (dE:Array Bool) (a:Act) (w:World),wpAny P md ops Q fuel dE a w->wpAnyIn (FR ro) n P md ops Q fuel dE a w
 |0,dE,a,w,h=>h
 |fuel+1,dE,a,w,h=>⟨h.1,fun i hi=>ao0 ro n hQ hd (fun a w=>afm ro n hQ hd fuel _ a w) (h.2 i hi)⟩
theorem aoW{ro:Option Nat}(L:Nat)(hm:P.follows .mixedOrders=true)(hQ:¬LetsOut Q)(hd:Jr ops=true)(hL:ops[L]? =some oL)(aS:ops.size=L+1)(hg:oL.guard=none)(vv:Ij ops=true)(Gq:JJ ops L=true)
 (h:wpAnyH P .any ops (eJ P oL Q) S L ((Array.replicate (L+1) false).setIfInBounds L true) a w.drew):(Code.region id ops true).wpIn (FR ro) n P Q a w:=by
 refine wpIn_region_any hm (afm ro n hQ hd _ _ _ _ ?_);rw[aS];refine afl hL aS hg vv Gq L _ a _ (by simp) (by simp[Array.getD]) (fun i o ho hl=>?_) (Cd _ _ _ _ h);simp[Array.getD]at hl
theorem aoV{l:Nat}(L:Nat)(hm:P.follows .mixedOrders=true)(hQ:¬LetsOut Q)(hd:Jr ops=true)(hL:ops[L]? =some oL)(aS:ops.size=L+1)(hg:oL.guard=none)(vv:Ij ops=true)(Gq:JJ ops L=true)
 (h:wpAnyH P .any ops (eJ P oL Q) S L ((Array.replicate (L+1) false).setIfInBounds L true) a w.drew):(Code.region id ops true).wpIn (Fence.wide.inRound l) n P Q a w:=
 aoW (ro:=some l) L hm hQ hd hL aS hg vv Gq h
def Qy(Q:Exit->Act->World->Prop):Exit->Act->World->Prop
 |.normal,a,w=>Q .normal a w
 |_,_,_=>False
theorem jW(h:c.wp P (Qy Q) a w):c.wp P Q a w:=wp_mono h fun e a w h=>by cases e<;>first|exact h|exact h.elim
theorem aoU{F:Fence}(h:c.wpIn F n P (Qy Q) a w):c.wpIn F n P Q a w:=wpIn_mono h fun e a w h=>by cases e<;>first|exact h|exact h.elim
theorem jw(h:Q .normal a w):Qy Q .normal a w:=h
theorem aj2(Q:Exit->Act->World->Prop):¬LetsOut (Qy Q):=fun⟨_,_,h⟩=>h
end Go.Proofs.YtpdnofhackjfdaaGreatDoor
namespace Go.Proofs.YtpdnofhackjfdaaGreatDoor
open Go.Proofs.Tryz
open Go.RowKit Go.Maps
attribute [local go_sem] Ew
variable {a:Act} {K:Act->World->Prop} {ops:Array Oper} {s:ByteArray} {c:Code} {Q:Exit->Act->World->Prop} {aD wf:List Nat} {xs:List Value} {N b ak i id ip k n:Nat} {o oL:Oper} {P:Program} {v v':Value} {W w w' w7 wr:World} {S:World->Prop}
structure OG where
 ob:Nat
 lo:Nat
 hi:Nat
 mb:Nat
 c:Nat
 vs:List Sv
 ms:List MS
 x:CX
 st:Int
 G:Int
 cK:Nat
 cb:Nat
 aD:List Nat
 fh:Nat
 cf:Nat
 FB:Nat
 rh:Nat
 cr:Nat
 WB:Nat
 nr:Nat
 L:Nat
def OG.bv(g:OG):Value:=.slice (some ⟨g.cK,0,none⟩) g.aD.length g.cb
def OG.fv(g:OG):Value:=.slice (some ⟨g.fh,0,none⟩) g.aD.length g.cf
def OG.rv(g:OG):Value:=.slice (some ⟨g.rh,0,none⟩) g.nr g.cr
structure OG.Ok(g:OG):Prop where
 ft:eR g.ms
 q:iz g.G g.ms
 bT:g.ms.length<=4001
 size:g.x.s.size<=10000000
 aB:0<=g.x.aB/\g.x.aB<=1000000000000
 Ia:g.L=g.ms.length/64+1
 bg:NI g.x.s g.aD
 ac7:g.nr=min g.x.s.size 4100+1
 OI:NC g.ob g.lo g.hi g.mb g.FB
 KO:NC g.ob g.lo g.hi g.mb g.WB
 Io:g.ob≠g.mb/\¬(g.lo<=g.ob/\g.ob<g.hi)/\g.ob≠0/\g.ob≠1
 ne:g.WB≠g.FB/\(g.WB≠g.cK/\g.WB≠g.fh/\g.WB≠g.rh)/\(g.FB≠g.cK/\g.FB≠g.fh/\g.FB≠g.rh)/\(g.ob≠g.cK/\g.ob≠g.fh/\g.ob≠g.rh)
structure ij(w:World)(g:OG)(ak:Nat)(wf wr:List Nat):Prop where
 rk:zB w g.ob g.lo g.hi g.mb g.c g.vs g.ms g.x g.st g.G g.bv g.fv (ak:Int) g.rv
 bg:∀k,k<g.aD.length->w.cell? ⟨g.cK,k,none⟩=some (.int .i64 (bd g.x.s (g.aD.getD k 0):Int))
 fh:∀k,k<g.aD.length->w.cell? ⟨g.fh,k,none⟩=some (se g.FB g.L k)
 rh:∀k,k<g.nr->w.cell? ⟨g.rh,k,none⟩=some (se g.WB g.L k)
 lt:g.cK<w.heap.size/\g.fh<w.heap.size/\g.rh<w.heap.size
 bf:aq w g.FB (de wf).toArray 207
 bw:aq w g.WB (de wr).toArray 207
 fl:wf.length=g.aD.length*g.L/\fW wf
 wl:wr.length=g.nr*g.L/\fW wr
theorem ij.kept{g:OG}{wr:List Nat}(h:ij w g ak wf wr)(k:aa af w w'):ij w' g ak wf wr where
 rk:=h.rk.kept k (fun h=>h) (fun h=>h) (fun _ _ _ h=>h) (fun h=>h) (fun h=>h)
 bg i hi:=(k.cell (p:=⟨g.cK,i,none⟩) h.lt.1 (fun h=>h)).trans (h.bg i hi)
 fh i hi:=(k.cell (p:=⟨g.fh,i,none⟩) h.lt.2.1 (fun h=>h)).trans (h.fh i hi)
 rh i hi:=(k.cell (p:=⟨g.rh,i,none⟩) h.lt.2.2 (fun h=>h)).trans (h.rh i hi)
 lt:=by have:=k.size;have:=h.lt;omega
 bf:=h.bf.kept k (fun h=>h)
 bw:=h.bw.kept k (fun h=>h)
 fl:=h.fl
 wl:=h.wl
theorem ij.WN{g:OG}{wr xI:List Nat}(h:ij w g ak wf wr)(hg:g.Ok)(k:aa (fun i=>i=g.WB) w w')(hb:aq w' g.WB (de xI).toArray 207)(hl:xI.length=g.nr*g.L/\fW xI):ij w' g ak wf xI where
 rk:=h.rk.row k hg.KO
 bg i hi:=(k.cell (p:=⟨g.cK,i,none⟩) h.lt.1 (fun e=>hg.ne.2.1.1 e.symm)).trans (h.bg i hi)
 fh i hi:=(k.cell (p:=⟨g.fh,i,none⟩) h.lt.2.1 (fun e=>hg.ne.2.1.2.1 e.symm)).trans (h.fh i hi)
 rh i hi:=(k.cell (p:=⟨g.rh,i,none⟩) h.lt.2.2 (fun e=>hg.ne.2.1.2.2 e.symm)).trans (h.rh i hi)
 lt:=by have:=k.size;have:=h.lt;omega
 bf:=h.bf.kept k (fun e=>hg.ne.1 e.symm)
 bw:=hb
 fl:=h.fl
 wl:=hl
theorem ij.aee{g:OG}{RJ wr:List Nat}(h:ij w g ak wf wr)(hg:g.Ok)(k:aa (fun i=>i=g.FB) w w')(hb:aq w' g.FB (de RJ).toArray 207)(hl:RJ.length=g.aD.length*g.L/\fW RJ):ij w' g ak RJ wr where
 rk:=h.rk.row k hg.OI
 bg i hi:=(k.cell (p:=⟨g.cK,i,none⟩) h.lt.1 (fun e=>hg.ne.2.2.1.1 e.symm)).trans (h.bg i hi)
 fh i hi:=(k.cell (p:=⟨g.fh,i,none⟩) h.lt.2.1 (fun e=>hg.ne.2.2.1.2.1 e.symm)).trans (h.fh i hi)
 rh i hi:=(k.cell (p:=⟨g.rh,i,none⟩) h.lt.2.2 (fun e=>hg.ne.2.2.1.2.2 e.symm)).trans (h.rh i hi)
 lt:=by have:=k.size;have:=h.lt;omega
 bf:=hb
 bw:=h.bw.kept k (fun e=>hg.ne.1 e)
 fl:=hl
 wl:=h.wl
theorem ij.anw{g:OG}{wr:List Nat}(h:ij w g ak wf wr)(hg:g.Ok)(b:Nat):ij (w.setCell ⟨g.ob,10,none⟩ (.int .i64 (b:Int))) g b wf wr:=by
 have k:aa (fun i=>i=g.ob) w (w.setCell ⟨g.ob,10,none⟩ (.int .i64 (b:Int))):=(aa.refl (fun i=>i=g.ob) w).setCell (p:=⟨g.ob,10,none⟩) (Or.inl rfl) _;have hO:=h.rk.out.setCell 10 (.int .i64 (b:Int));refine{rk:=⟨?_,h.rk.ic.kept k (fun e=>hg.Io.1 e.symm),fun i a b=>(h.rk.vZ i a b).kept k (fun j h1 h2 e=>hg.Io.2.1 (by subst e;exact⟨h1,h2⟩)) h.rk.le,Be h.rk.le k.size,h.rk.jK.kept k (fun e=>hg.Io.2.2.1 e.symm) (fun e=>hg.Io.2.2.2 e.symm)⟩,bg:=fun i hi=>?_,fh:=fun i hi=>?_,rh:=fun i hi=>?_,lt:=?_,bf:=?_,bw:=?_,fl:=h.fl,wl:=h.wl}
 ·simpa[GQ]using hO
 ·exact(k.cell (p:=⟨g.cK,i,none⟩) h.lt.1 (fun e=>hg.ne.2.2.2.1 e.symm)).trans (h.bg i hi)
 ·exact(k.cell (p:=⟨g.fh,i,none⟩) h.lt.2.1 (fun e=>hg.ne.2.2.2.2.1 e.symm)).trans (h.fh i hi)
 ·exact(k.cell (p:=⟨g.rh,i,none⟩) h.lt.2.2 (fun e=>hg.ne.2.2.2.2.2 e.symm)).trans (h.rh i hi)
 ·have:=k.size;have:=h.lt;omega
 ·exact h.bf.kept k hg.OI.1
 ·exact h.bw.kept k hg.KO.1
def zC(g:OG)(ws:List Nat)(r i:Nat):Prop:=∀u:Nat,u<g.ms.length->gh ws (r*g.L) u=dM g.ms g.x u i
def OG.from(g:OG)(b:Nat):Nat:=bd g.x.s (g.aD.getD b 0)
def uV(g:OG)(wr:List Nat)(b i:Nat):Prop:=∀j,i<=j->j<=g.aD.getD (b+1) 0->zC g wr (bd g.x.s j-g.from b) j
attribute [local go_sem] Ew
def rm(k N:Nat):List Nat:=((List.range N).drop k).reverse
theorem aaw(N:Nat):rm N N=[]:=by unfold rm;simp
theorem aay(h:k<N):rm k N=rm (k+1) N++[k]:=by
 unfold rm;rw[Bu (by simpa using h),List.reverse_cons];simp
theorem aax(k N:Nat):(rm k N).length=N-k:=by unfold rm;simp
theorem ahl{l:List Nat}{x:Nat}(hk:k<=N)(h:l++[x]=rm k N):k<N/\x=k/\l=rm (k+1) N:=by
 by_cases e:k=N
 ·subst e;rw[aaw]at h;simp at h
 ·have aw:k<N:=by omega
  rw[aay aw]at h;have h1:=List.append_inj' h rfl;refine⟨aw,?_,h1.1⟩;simpa using h1.2
theorem af0(w:World)(a:Option Addr)(N c:Nat):Calls prog 115 #[.slice a N c] w fun e w'=>e=.returned (.func (.func 142) #[] #[.pointer (some ⟨w.heap.size,0,none⟩)])/\w'=w.alloc (.cells #[.slice a N c] 22):=by
 go_in
 go_wp2_with fail
 go_ret
 exact⟨rfl,rfl⟩
abbrev Ii(N:Nat):={d:Nat//d<N}
def OL(p:Nat->Nat){N:Nat}(x:Ii N):Array Value:=#[.int .i64 (x.1:Int),.int .i64 (p x.1:Int)]
theorem afZ(n:Nat)(hn:1<=n)(l Bs pb N c:Nat)(p:Nat->Nat)(a:Option Addr)(ha:0<N->a=some ⟨pb,0,none⟩)(xe:N<=10000000)(J Jx:List (Ii N)->World->Prop)
 (hY:∀pre x W,J pre W->pre.length<N->YieldAt Fence.wide (n-1) prog l (OL p x) W fun e W'=>
   (e=.returned (.bool true)/\J (pre++[x]) W'/\jO Bs pb W W')\/(e=.returned (.bool false)/\Jx (pre++[x]) W'))
 (W:World)(c1:W.cell? ⟨Bs,0,none⟩=some (.slice a N c))(c2:∀d,d<N->W.cell? ⟨pb,d,none⟩=some (.int .i64 (p d:Int)))(hJ:AbidesFrom W.heap.size J)(h0:J [] W):
 CallsIn Fence.wide n prog 142 #[.func (.yield l) #[] #[],.pointer (some ⟨Bs,0,none⟩)] W fun e W'=>(∃v,e=.returned v)/\
  ((∃ys,ys.map (·.1)=rm 0 N/\J ys W')\/(∃pre,True/\Jx pre W')):=by
 refine callsIn_of_wp func142 rfl trivial ?_ rfl;simp only[ntmps142,Dh,Ax,Bb,Nat.reduceAdd,Nat.reduceSub,Db,Dc,Du,Dj,Dk,C1];gi_wp2
 gi_loopw [3] (fun i wr=>∃(k:Nat) (pre:List (Ii N)),k<=N/\i=.int .i64 ((k:Int)-1)/\Hid (pre.map (·.1)=rm k N)/\Hid (J pre wr)/\Hid (jO Bs pb W wr))
  (fun i _=>(intOf i+1).toNat)
 case atStart=>exact⟨N,[],Ab _,rfl,(aaw N).symm,h0,jO.refl _ _ _⟩
 case round=>
  obtain⟨k,pre,hk,rfl,HP,Kc,HB⟩:=hrel;have d1:wr.cell? ⟨Bs,0,none⟩=some (.slice a N c):=HB.out.cell.1.trans c1;by_cases aw:0<k
  ·obtain⟨m,rfl⟩:∃m,k=m+1:=⟨k-1,by omega⟩
   have Qc:m<N:=(by omega);obtain rfl:=ha (by omega);have d2:wr.cell? ⟨pb,m,none⟩=some (.int .i64 (p m:Int)):=(Bz (w:=W) (a:=⟨pb,m,none⟩) HB.out.2).trans (c2 m Qc);have cT:pre.length=N-(m+1):=by have:=congrArg List.length HP.out;simpa[aax]using this
   obtain⟨fn,tmps,assign,body,hy,hR⟩:=hY pre ⟨m,Qc⟩ wr Kc.out (by omega);have HR:=ab hR;simp only[OL]at hy;have em:((m+1:Nat):Int)-1=(m:Int):=(by omega);rw[em];clear hR em cT;gi_wp2;refine HR.out.mono ?_;rintro e W3 (⟨rfl,EA,bA⟩|⟨rfl,hJx3⟩)
   ·have Sq:=ab EA;have iO:=ab bA;clear EA bA hy;gi_wp2;go_roundw
    case rel=>exact⟨m,pre++[⟨m,Qc⟩],by omega,rfl,(by show _=_;rw[Ch,HP.out,aay Qc];rfl),Sq,HB.out.trans iO.out⟩
    case measure=>simp[intOf]
   ·gi_wp2
    refine Bj (Df rfl _ _ _) rfl ?_;exact⟨⟨_,rfl⟩,.inr ⟨_,trivial,hJx3⟩⟩
  ·have vE:k=0:=(by omega);subst vE;gi_wp2;go_end0;exact⟨⟨_,rfl⟩,.inl ⟨pre,HP.out,Kc.out⟩⟩
theorem af1(n:Nat)(hn:1<=n)(Bs pb N c:Nat)(p:Nat->Nat)(a:Option Addr)(ha:0<N->a=some ⟨pb,0,none⟩)(xe:N<=10000000)(w:World)(tO:Bs<w.heap.size)(dS:pb<w.heap.size)
 (c1:w.cell? ⟨Bs,0,none⟩=some (.slice a N c))(c2:∀d,d<N->w.cell? ⟨pb,d,none⟩=some (.int .i64 (p d:Int))):
 SeqStopsK Fence.wide n prog 142 #[.pointer (some ⟨Bs,0,none⟩)] (fun x:Ii N=>OL p x) (jO Bs pb) (fun ys=>ys.map (·.1)=rm 0 N) (fun pre=>True) N w:=fun l J Jx W hW hJ _ hY h0=>
 afZ n hn l Bs pb N c p a ha xe J Jx hY W ((hW.cell (p:=⟨Bs,0,none⟩) tO).trans c1) (fun d hd=>(hW.cell (p:=⟨pb,d,none⟩) dS).trans (c2 d hd)) hJ h0
end Go.Proofs.YtpdnofhackjfdaaGreatDoor
