/- Package whole's  -/
import Derived.Test.YtpdnofhackjfdaaGreatDoorP22
set_option linter.all false
set_option maxRecDepth 100000
set_option maxHeartbeats 4000000
namespace Go.Proofs.YtpdnofhackjfdaaGreatDoor
open Go.Proofs.Tryz
open Go.RowKit Go.Maps
variable {a:Act} {K:Act->World->Prop} {ops:Array Oper} {s:ByteArray} {c:Code} {Q:Exit->Act->World->Prop} {aD wf:List Nat} {xs:List Value} {N b aj i id ip k n:Nat} {o oL:Oper} {P:Program} {v v':Value} {W w w' w7 wr:World} {S:World->Prop}
structure zp(s:ByteArray)(aD:List Nat):Prop where
 pos:1<=aD.length
 zero:aD.getD 0 0=0
 step:∀k,k+1<aD.length->aD.getD k 0<=aD.getD (k+1) 0/\bd s (aD.getD (k+1) 0)<=bd s (aD.getD k 0)+4099
 wP:4096*(aD.length-1)<=bd s (aD.getD (aD.length-1) 0)
 in_:∀k,aD.getD k 0<=(aF s).length
theorem IR(l:List Nat)(a k:Nat):(l++[a]).getD k 0=if k<l.length then l.getD k 0 else if k=l.length then a else 0:=by
 simp only[Af];by_cases h:k<l.length
 ·rw[if_pos h,A9 h]
 ·rw[if_neg h];by_cases e:k=l.length
  ·subst e;simp
  ·rw[if_neg e,Cj (by simp;omega)];rfl
theorem zp.start(s:ByteArray):zp s [0]:=⟨by simp,by simp,fun k h=>by simp at h,by simp[sB],fun k=>by cases k<;>simp⟩
theorem zp.push(h:zp s aD)(hi:i<=(aF s).length)(h1:aD.getD (aD.length-1) 0<=i)(h2:bd s i<=bd s (aD.getD (aD.length-1) 0)+4099):(1<=(aD++[i]).length/\(aD++[i]).getD 0 0=0/\(∀k,k+1<(aD++[i]).length->(aD++[i]).getD k 0<=(aD++[i]).getD (k+1) 0/\bd s ((aD++[i]).getD (k+1) 0)<=bd s ((aD++[i]).getD k 0)+4099)/\∀k,(aD++[i]).getD k 0<=(aF s).length):=by
 have hp:=h.pos;refine⟨by simp,by rw[IR,if_pos (by omega)];exact h.zero,fun k hk=>?_,fun k=>?_⟩
 ·rw[Aj,Fl]at hk;rw[IR,IR,if_pos (by omega)];by_cases e:k+1<aD.length
  ·rw[if_pos e];exact h.step k e
  ·rw[if_neg e,if_pos (by omega),show k=aD.length-1 by omega];exact⟨h1,h2⟩
 ·rw[IR];split
  ·exact h.in_ k
  ·split
   ·exact hi
   ·omega
structure NY(s:ByteArray)(aD:List Nat):Prop where
 cA:2<=aD.length
 zero:aD.getD 0 0=0
 eU:aD.getD (aD.length-1) 0=(aF s).length
 step:∀k,k+1<aD.length->aD.getD k 0<=aD.getD (k+1) 0/\bd s (aD.getD (k+1) 0)<=bd s (aD.getD k 0)+4099
 bJ:aD.length<=s.size/4096+2
 in_:∀k,aD.getD k 0<=(aF s).length
def qn(s:ByteArray)(aD:List Nat):List Value:=aD.map fun i=>Value.int .i64 (bd s i:Int)
theorem ZV(h:k<aD.length):(qn s aD)[k]? =some (.int .i64 (bd s (aD.getD k 0):Int)):=by
 unfold qn;simp[Af,Ae h]
theorem zp.done(h:zp s aD)(h1:aD.getD (aD.length-1) 0<=(aF s).length)(h2:s.size<=bd s (aD.getD (aD.length-1) 0)+4099):NY s (aD++[(aF s).length]):=by
 have hb:bd s (aF s).length=s.size:=mP (Ab _);obtain⟨a1,a2,a3,a4⟩:=h.push (Ab _) h1 (by rw[hb];exact h2);have hp:=h.pos;refine⟨by simp;omega,a2,by rw[IR];simp,a3,?_,a4⟩;have:=h.wP;have:=iQ s (aD.getD (aD.length-1) 0);rw[Aj,Fl];omega
structure qd(w wr:World)(s:ByteArray)(v:Value)(aD:List Nat)(i ip:Nat):Prop where
 bg:zp s aD
 le:aD.getD (aD.length-1) 0<=i
 Ni:bd s i<=bd s (aD.getD (aD.length-1) 0)+4099
 xn:i<=(aF s).length
 row:wr.ownsRow w.heap.size 3 1 v aD.length (qn s aD)
 iter:wr.heap[w.heap.size+1]? =some (.stringIter s ip)
 off:v.ownBlock≠some (w.heap.size+1)
 kept:aa af w wr
 size:w.heap.size+2<=wr.heap.size
theorem qd.bJ(h:qd w wr s v aD i ip):aD.length<=s.size/4096+1:=by
 have:=h.bg.wP;have:=iQ s (aD.getD (aD.length-1) 0);have:=h.bg.pos;omega
theorem qd.CI(h:qd w wr s v aD i ip)(GV:Nat):qd w (wr.iterAt (w.heap.size+1) s GV) s v aD i GV:=by
 have k:aa (fun i=>i=w.heap.size+1) wr (wr.iterAt (w.heap.size+1) s GV):=(aa.refl (fun i=>i=w.heap.size+1) wr).iterAt (k:=w.heap.size+1) (Or.inl rfl) s _;exact⟨h.bg,h.le,h.Ni,h.xn,bY h.row k (fun b hb hx=>h.off (by rw[hb,hx])),Lib.iterAt_heap wr _ s _ _ h.iter,h.off,h.kept.bZ k (fun i hi he=>by omega),by rw[Fw];exact h.size⟩
theorem qd.next(h:qd w wr s v aD i ip)(hi:i<(aF s).length)(hb:bd s i<bd s (aD.getD (aD.length-1) 0)+4096):qd w wr s v aD (i+1) ip:=by
 have bC:=pJ hi;exact⟨h.bg,by have:=h.le;omega,by omega,hi,h.row,h.iter,h.off,h.kept,h.size⟩
theorem qd.Ns(h:qd w wr s v aD i ip)(hi:i<(aF s).length)(hb:bd s (aD.getD (aD.length-1) 0)+4096<=bd s i)(k0:aa af wr W)
 (bt:w7.ownsRow w.heap.size 3 1 v' (aD.length+1) (qn s aD++[.int .i64 (bd s i:Int)]))(hg:W.grownBy w7 v.ownBlock)(cB:v'.ownBlock=v.ownBlock\/v'.ownBlock=some W.heap.size):qd w w7 s v' (aD++[i]) (i+1) ip:=by
 have k7:aa (fun j=>v.ownBlock=some j) wr w7:=(k0.mono (fun i hx=>hx.elim)).eQ hg (fun j hj=>Or.inl hj);obtain⟨a1,a2,a3,a4⟩:=h.bg.push h.xn h.le h.Ni;have hl:(aD++[i]).getD ((aD++[i]).length-1) 0=i:=by rw[IR];simp
 have aiU:=h.bg.wP;have xh:=h.bg.pos;have bC:=pJ hi;refine⟨⟨a1,a2,a3,by rw[hl,Aj,Fl];omega,a4⟩,by rw[hl];omega,by rw[hl];omega,hi,?_,(k7.block _ (by have:=h.size;omega) h.off).trans h.iter,?_,h.kept.bZ k7 (fun j hj he=>by have:=(dE h.row he).1;omega),Bb h.size k7.size⟩
 ·rw[Aj];have:qn s (aD++[i])=qn s aD++[.int .i64 (bd s i:Int)]:=by simp[qn]
  rw[this];exact bt
 ·rcases cB with e|e
  ·rw[e];exact h.off
  ·rw[e];intro hx;have:=C6 hx;have:=h.size;have:=k0.size;omega
theorem qd.done(h:qd w wr s v aD (aF s).length ip)(k0:aa af wr W)
 (bt:w7.ownsRow w.heap.size 3 1 v' (aD.length+1) (qn s aD++[.int .i64 (s.size:Int)]))(hg:W.grownBy w7 v.ownBlock):aa af w w7/\w7.ownsRow w.heap.size 3 1 v' (aD++[(aF s).length]).length (qn s (aD++[(aF s).length]))/\NY s (aD++[(aF s).length]):=by
 have k7:aa (fun j=>v.ownBlock=some j) wr w7:=(k0.mono (fun i hx=>hx.elim)).eQ hg (fun j hj=>Or.inl hj);have hb:bd s (aF s).length=s.size:=mP (Ab _);refine⟨h.kept.bZ k7 (fun j hj he=>by have:=(dE h.row he).1;omega),?_,h.bg.done h.le (by rw[<-hb];exact h.Ni)⟩;have:qn s (aD++[(aF s).length])=qn s aD++[.int .i64 (s.size:Int)]:=by simp[qn,hb]
 rw[this,Aj];exact bt
theorem af8(s:ByteArray)(w:World)(hs:s.size<=1000000000):
 Calls prog 85 #[.string s] w fun e w'=>∃(v:Value) (aD:List Nat),e=.returned v/\aa af w w'/\w'.ownsRow w.heap.size 3 1 v aD.length (qn s aD)/\NY s aD:=by
 obtain⟨i0,cS,dm,dp,c_⟩:=Bp Tryz.GU
 have du:Hid (qd w ((w.alloc (.cells #[.int .i64 0] 3)).iter s 0) s (.slice (some ⟨w.heap.size,0,none⟩) 1 1) [0] 0 (bd s 0)):=by
  refine⟨zp.start s,Ab _,by simp,Ao _,?_,?_,?_,((aa.refl af w).alloc _).alloc _,by simp[World.iter]⟩
  ·refine⟨by simp[qn],Or.inr ⟨w.heap.size,1,#[.int .i64 0],rfl,Ab _,?_,Ab _,by unfold maxLen;omega,by simp,by simp[qn,sB]⟩⟩;exact(aq.new w #[.int .i64 0] 3).alloc _
  ·have:=World.iter_heap (w.alloc (.cells #[.int .i64 0] 3)) s 0;rw[fO]at this;rw[sB];exact this
  ·intro hx;have:w.heap.size=w.heap.size+1:=C6 hx;omega
 go_in
 go_wp2_with fail
 go_loopg [3] (aF s).length (fun kk v wr=>∃(i:Nat) (aD:List Nat),Hid (qd w wr s v aD i (bd s i))/\kk=(aF s).length-i)
 case atStart=>exact⟨0,[0],du,rfl⟩
 case round=>
  obtain⟨i,aD,HB,eZ⟩:=hrel;clear du;have hi:=HB.o.xn;have dw:=HB.o.bJ;have xh:=HB.o.bg.pos;by_cases aw:i<(aF s).length
  ·have aP:=u2 aw;have hn:=(fun ty=>Lib.run_next_any_at (P:=prog) wr (w.heap.size+1) s (bd s i) ty HB.o.iter aP);rw[<-sA aw]at hn;have ix:=ab (HB.o.CI (bd s (i+1)));obtain⟨w1,pR⟩:∃w1,w1=wr.iterAt (w.heap.size+1) s (bd s (i+1)):=⟨_,rfl⟩
   rw[<-pR]at hn ix;clear pR HB;generalize((Utf8.decode s (bd s i)).1:Int)=cc at hn;obtain⟨g,c,hv,l1,l2,l3,l4,l5⟩:=mG ix.o.row (by omega);subst hv;obtain⟨n,pj⟩:∃n,aD.length=n+1:=⟨aD.length-1,by omega⟩
   have cl:w1.cell? ⟨g,n,none⟩=some (.int .i64 (bd s (aD.getD n 0):Int)):=(by rw[l4 n (by omega),ZV (by omega)]);have AV:aD.length-1=n:=(by omega);have gD:=iQ s (aD.getD n 0);have PU:=(ab fun(h:bd s (aD.getD n 0)+4096<=bd s i) {W w7:World} {v':Value}=>ix.o.Ns (W:=W) (w7:=w7) (v':=v') aw (by rw[AV];exact h));have NX:=(ab fun(h:bd s i<bd s (aD.getD n 0)+4096)=>ix.o.next aw (by rw[AV];exact h));have fW:=ab ix.o.row;have qZ:=ab ix.o.size;clear l4 l5 AV;rw[pj]at fW PU NX dw⊢;have uL:=ab pj;clear pj xh l3;generalize uc:bd s (aD.getD n 0)=lb at*;clear uc;by_cases ia:lb+4096<=bd s i
   ·have aiX:(lb:Int)+4096<=(bd s i:Int):=(by omega);go_wp2_with (at_builtin;refine Ap _ rfl _ _ 22 rfl w.heap.size 3 i0 _ 1 8 underlying22 cS dm dp c_ rfl (by decide) _ _ _ rfl (fW.o.alloc _) ⟨w1.heap.size,0,none⟩ 1 1 [.int .i64 (bd s i:Int)] rfl rfl ?c1 ?c2 ?c3 ?c4 ?c5 ?_)
    case c1=>exact Hc _ _
    case c2=>exact vI _
    case c3=>unfold maxLen;omega
    case c4=>omega
    case c5=>have:=qZ.o;simp;omega
    intro v' w7 bH b_ dS cB;obtain⟨jg,c',rfl⟩:=cK bH;have ax:=ab (PU.o ia ((aa.refl af w1).alloc _) bH b_ (by simpa using cB));clear bH b_ dS cB;go_wp2_with fail;go_roundg ((aF s).length-(i+1))
    case measure=>omega
    case rel=>exact⟨i+1,_,ax,rfl⟩
   ·have aiX:¬(lb:Int)+4096<=(bd s i:Int):=(by omega);have ax:=ab (NX.o (by omega));go_wp2_with fail;go_roundg ((aF s).length-(i+1))
    case measure=>omega
    case rel=>exact⟨i+1,_,ax,rfl⟩
  ·have hi':i=(aF s).length:=(by omega);subst hi';have ff:bd s (aF s).length=s.size:=mP (Ab _);have hn:=(fun ty=>Lib.run_next_end_at (P:=prog) wr (w.heap.size+1) s (bd s (aF s).length) ty HB.o.iter (by omega));obtain⟨ao,c,rfl⟩:=cK HB.o.row;have qZ:=ab HB.o.size;have FI:=(ab fun(W w7:World) (v':Value)=>HB.o.done (W:=W) (w7:=w7) (v':=v'));have fW:=ab HB.o.row;clear ff;go_wp2_with (at_builtin;refine Ap _ rfl _ _ 22 rfl w.heap.size 3 i0 _ 1 8 underlying22 cS dm dp c_ rfl (by decide) _ _ _ rfl (fW.o.alloc _) ⟨wr.heap.size,0,none⟩ 1 1 [.int .i64 (s.size:Int)] rfl rfl ?c1 ?c2 ?c3 ?c4 ?c5 ?_)
   case c1=>exact Hc _ _
   case c2=>exact vI _
   case c3=>unfold maxLen;omega
   case c4=>omega
   case c5=>have:=qZ.o;simp;omega
   intro v' w7 bH b_ dS cB;obtain⟨jg,c',rfl⟩:=cK bH;have ax:=ab (FI.o _ _ _ ((aa.refl af wr).alloc _) bH b_);clear bH b_ dS cB;go_wp2_with fail;go_ret;exact⟨_,_,rfl,ax.o.1,ax.o.2.1,ax.o.2.2⟩
attribute [local go_sem] E8
def jR(a b:Nat)(W W':World):Prop:=W'.heap[a]? =W.heap[a]? /\W'.heap[b]? =W.heap[b]?
theorem jR.refl(a b:Nat)(W:World):jR a b W W:=⟨rfl,rfl⟩
theorem jR.trans{a:Nat}{A B C:World}(h:jR a b A B)(k:jR a b B C):jR a b A C:=⟨k.1.trans h.1,k.2.trans h.2⟩
theorem jR.putObj{a:Nat}(ha:a<w.heap.size)(hb:b<w.heap.size)(W:World)(l:Nat)(o o':Obj)(hl:w.heap.size<=l)(h:W.heap[l]? =some o)(_:o.isCells=false)(_:o.isWalk=false):jR a b W (W.putObj l o'):=
 ⟨Dh (by omega),Dh (by omega)⟩
theorem jR.cell{a:Nat}{W':World}(h:jR a b W W'):W'.cell? ⟨a,0,none⟩=W.cell? ⟨a,0,none⟩/\W'.cell? ⟨b,0,none⟩=W.cell? ⟨b,0,none⟩:=⟨Bz (w:=W) h.1,Bz (w:=W) h.2⟩
def r_(WB L r:Nat):Value:=.slice (some ⟨WB,r*L,none⟩) L L
theorem agO(n:Nat)(hn:1<=n)(l Bs Bn WB N L NL:Nat)(AD:NL=N*L)(hL:0<L)(xk:NL<=10000000)(J Jx:List Nat->World->Prop)
 (hY:∀pre x W,J pre W->pre.length<N->YieldAt Fence.wide (n-1) prog l #[r_ WB L x] W fun e W'=>
   (e=.returned (.bool true)/\J (pre++[x]) W'/\jR Bs Bn W W')\/(e=.returned (.bool false)/\Jx (pre++[x]) W'))
 (W:World)(c1:W.cell? ⟨Bs,0,none⟩=some (.slice (some ⟨WB,0,none⟩) NL NL))(c2:W.cell? ⟨Bn,0,none⟩=some (.int .i64 (L:Int)))(hJ:AbidesFrom W.heap.size J)(h0:J [] W):
 CallsIn Fence.wide n prog 137 #[.func (.yield l) #[] #[],.pointer (some ⟨Bs,0,none⟩),.pointer (some ⟨Bn,0,none⟩)] W fun e W'=>(∃v,e=.returned v)/\
  ((∃ys,ys=List.range N/\J ys W')\/(∃pre,pre<+:List.range N/\Jx pre W')):=by
 refine callsIn_of_wp func137 rfl trivial ?_ rfl;simp only[ntmps137,Dl,Av,A8,Nat.reduceAdd,Nat.reduceSub,De,Df,D2,Dm,C7,C0];have Oq:=ab AD;clear AD;gi_wp2
 gi_loopw [4] (fun i wr=>∃k p:Nat,k<=N/\Hid (p=k*L)/\i=.int .i64 (p:Int)/\Hid (J (List.range k) wr)/\Hid (jR Bs Bn W wr))
  (fun i _=>NL-(intOf i).toNat)
 case atStart=>exact⟨0,0,Ao _,(by show _=_;omega),rfl,h0,jR.refl _ _ _⟩
 case round=>
  obtain⟨k,p,hk,HP,rfl,Kr,HB⟩:=hrel;have d1:wr.cell? ⟨Bs,0,none⟩=some (.slice (some ⟨WB,0,none⟩) NL NL):=HB.o.cell.1.trans c1;have d2:wr.cell? ⟨Bn,0,none⟩=some (.int .i64 (L:Int)):=HB.o.cell.2.trans c2;by_cases aw:k<N
  ·have hpL:p+L<=NL:=by
    have:=Bt L (show k+1<=N by omega);rw[HP.o,Oq.o];rw[Cs]at this;omega
   gi_wp2
   gi_big_quiet (fail)
   have Vp:min (L:Int) ((NL-p:Nat):Int)=(L:Int):=(by omega);rw[Vp];clear Vp;have Pv:J (List.range k) (wr.drewN nq):=hJ _ wr _ none Kr.o ⟨rfl,rfl,rfl,Ab _,fun _ _ _=>rfl⟩ (fun r e=>by cases e);obtain⟨fn,tmps,assign,body,hy,hR⟩:=hY _ k _ Pv (by simp;omega);have HR:=ab hR;clear hR;have xe:k*L=p:=HP.o.symm;simp only[r_]at hy;rw[xe]at hy;clear xe Pv;have e1:(wr.drewN nq).cell? ⟨Bs,0,none⟩=some (.slice (some ⟨WB,0,none⟩) NL NL):=d1;gi_wp2;refine HR.o.mono ?_;rintro e W3 (⟨rfl,FA,bA⟩|⟨rfl,hJx3⟩)
   ·have e2:W3.cell? ⟨Bn,0,none⟩=some (.int .i64 (L:Int)):=bA.cell.2.trans d2;have SC:=ab FA;have iN:=ab bA;clear FA bA e1 d1 d2 hy;gi_wp2;go_roundw
    case rel=>exact⟨k+1,p+L,by omega,(by show _=_;rw[HP.o,Cs];omega),by simp,(by rw[Fx];exact SC),HB.o.trans ((show jR Bs Bn wr (wr.drewN nq)from⟨rfl,rfl⟩).trans iN.o)⟩
    case measure=>simp[intOf];omega
   ·gi_wp2
    refine Bi (Dj rfl _ _ _) rfl ?_;refine⟨⟨_,rfl⟩,.inr ⟨_,?_,hJx3⟩⟩;rw[<-Fx];have:List.range (k+1)=(List.range N).take (k+1):=by rw[List.take_range];congr 1;omega
    rw[this];exact List.take_prefix _ _
  ·have xe:p=NL:=(by rw[HP.o,Oq.o,show k=N by omega]);have ax:Hid (J (List.range N) wr):=by rw[<-show k=N by omega];exact Kr
   subst xe;gi_wp2;go_end0;exact⟨⟨_,rfl⟩,.inl ⟨_,rfl,ax.o⟩⟩
theorem agQ(n:Nat)(hn:1<=n)(Bs Bn WB N L NL:Nat)(AD:NL=N*L)(hL:0<L)(xk:NL<=10000000)(w:World)(tR:Bs<w.heap.size)(hBn:Bn<w.heap.size)
 (c1:w.cell? ⟨Bs,0,none⟩=some (.slice (some ⟨WB,0,none⟩) NL NL))(c2:w.cell? ⟨Bn,0,none⟩=some (.int .i64 (L:Int))):
 SeqStopsK Fence.wide n prog 137 #[.pointer (some ⟨Bs,0,none⟩),.pointer (some ⟨Bn,0,none⟩)] (fun x:Nat=>#[r_ WB L x]) (jR Bs Bn) (fun ys=>ys=List.range N) (fun pre=>pre<+:List.range N) N w:=fun l J Jx W hW hJ _ hY h0=>
 agO n hn l Bs Bn WB N L NL AD hL xk J Jx hY W ((hW.cell (p:=⟨Bs,0,none⟩) tR).trans c1) ((hW.cell (p:=⟨Bn,0,none⟩) hBn).trans c2) hJ h0
theorem agP(w:World)(a:Option Addr)(NL c L:Nat)(hL:0<L)(hL2:L<=10000000):Calls prog 110 #[.slice a NL c,.int .i64 (L:Int)] w fun e w'=>e=.returned (.func (.func 137) #[] #[.pointer (some ⟨w.heap.size,0,none⟩),.pointer (some ⟨w.heap.size+1,0,none⟩)])/\w'=(w.alloc (.cells #[.slice a NL c] 173)).alloc (.cells #[.int .i64 (L:Int)] 3):=by
 have c2:((w.alloc (.cells #[.slice a NL c] 173)).alloc (.cells #[.int .i64 (L:Int)] 3)).cell? ⟨w.heap.size+1,0,none⟩=some (.int .i64 (L:Int)):=by
  have:=(aq.new (w.alloc (.cells #[.slice a NL c] 173)) #[.int .i64 (L:Int)] 3).cell 0;rw[fO]at this;exact this
 go_in
 go_wp2_with fail
 go_ret
 exact⟨rfl,rfl⟩
theorem Tryz.aj6:(prog.info? 207).map (fun i=>(i.zero,i.size,i.bytes))=some (some (.int .u64 0),1,8):=by kernel_rfl
theorem Tryz.aj4:(prog.info? 173).map (fun i=>(i.zero,i.size,i.bytes))=some (some (.slice none 0 0),1,24):=by kernel_rfl
theorem akV(n:Nat):madeCells #[.int .u64 0] n=(dg (List.replicate n 0)).toArray:=by
 unfold madeCells dg;refine Array.ext (by simp) fun k h1 h2=>?_
 simp[Gj]
theorem agh{w2 w1:World}{B:Nat}{t e:TypeId}{m:Nat}{ys:List Value}{tmp:Obj}(hv:Boxed W B t v)(dO:W.ownsRow w2.heap.size e 1 v k xs)(hB:aa (fun i=>i=B) w2 W)(Uj:B<w2.heap.size)(bH:w1.ownsRow w2.heap.size e 1 v' m ys)(b_:(W.alloc tmp).grownBy w1 v.ownBlock):
 Boxed w1 B t v/\Boxed (w1.setCell ⟨B,0,none⟩ v') B t v'/\(w1.setCell ⟨B,0,none⟩ v').ownsRow w2.heap.size e 1 v' m ys/\KeepsOthers W (w1.setCell ⟨B,0,none⟩ v')/\aa (fun i=>i=B) w2 (w1.setCell ⟨B,0,none⟩ v')/\(∀j,j<w2.heap.size->j≠B->(w1.setCell ⟨B,0,none⟩ v').heap[j]? =W.heap[j]?):=by
 have hg:∀i,v.ownBlock=some i->w2.heap.size<=i:=fun i hi=>(dE dO hi).1
 have mx:Boxed w1 B t v:=(hv.alloc tmp).kept b_ (fun e=>by have:=hg B e.symm;omega);have k1:aa (fun i=>v.ownBlock=some i) W w1:=((aa.refl _ W).alloc tmp).eQ b_ (fun j hj=>Or.inl hj);have k2:aa (fun i=>i=B) w1 (w1.setCell ⟨B,0,none⟩ v'):=(aa.refl (fun i=>i=B) w1).setCell (p:=⟨B,0,none⟩) (Or.inl rfl) v';have hs:=hB.size;have cU:=k1.size;refine⟨mx,mx.set v',bY bH k2 (fun b hb e=>by have:=(dE bH hb).1;omega),?_,(hB.bZ k1 (fun i hi he=>by have:=hg i he;omega)).trans k2,fun j hj hjB=>(k2.block j (by omega) hjB).trans (k1.block j (by omega) (fun e=>by have:=hg j e;omega))⟩;refine((KeepsOthers.alloc W tmp).trans (KeepsOthers.of_grownBy b_ fun j o ej hj=>?_)).trans (KeepsOthers.setCell _ _ _);rcases(dO.alloc tmp).2 with⟨rfl,_⟩|⟨g,cap,aM,rfl,_,kT,_⟩
 ·simp[Value.ownBlock]at ej
 ·obtain rfl:g=j:=by simpa[Value.ownBlock]using ej
  rw[kT]at hj;cases hj;rfl
theorem CN{b' e size:Nat}(h:w.ownsRow b e size v n xs)(hb:b'<=b):w.ownsRow b' e size v n xs:=by
 refine⟨h.1,?_⟩;rcases h.2 with h2|⟨g,cap,aM,h3,h4,h5⟩
 ·exact Or.inl h2
 ·exact Or.inr ⟨g,cap,aM,h3,Bb hb h4,h5⟩
def Ta(w:World)(base:Nat)(v:Value)(N L WB:Nat):Prop:=w.ownsRow base 173 1 v N ((List.range N).map (r_ WB L))
theorem aly(n:Nat)(hn:3<=n)(N st L NL:Nat)(hL:L=st/64+1)(AD:NL=N*L)(hN:N<=100000)(bC:st<=4001)(xk:NL<=10000000)(w:World):
 CallsIn Fence.wide n prog 86 #[.int .i64 (N:Int),.int .i64 (st:Int)] w fun e W'=>∃v,e=.returned v/\Ta W' (w.heap.size+1) v N L w.heap.size/\aq W' w.heap.size (dg (List.replicate NL 0)).toArray 207/\Below w.heap.size w W':=by
 have h1:1<=n:=by omega
 obtain⟨i0,hi,dm,dp,c_⟩:=Bp Tryz.aj4;have hdiv:(st:Int) /64+1=(L:Int):=by omega
 have hmul:(N:Int)*(L:Int)=(NL:Int):=by rw[AD];simp
 have qC:=fun W=>Go.run_make_row' (P:=prog) 173 207 (.int .u64 0) 8 underlying173 Tryz.aj6 rfl .i64 .i64 NL (by omega) (by omega) W
 have Oq:=ab AD;have HL:=ab hL;have Pz:0<L:=by omega
 clear AD hL;refine callsIn_of_wp_marks func86 rfl trivial ?_ rfl;simp only[ntmps86,Dl,Av,A8,Nat.reduceAdd,Nat.reduceSub,De,Df,D2,Dm,C7,C0];gi_wp2;refine⟨trivial,(Ga.2 (agP _ (some ⟨w.heap.size,0,none⟩) NL NL L Pz (by have:=HL.o;omega))).mono ?_⟩;rintro e w2 ⟨rfl,pS⟩;have ajM:w2.heap.size=w.heap.size+4:=by rw[pS];simp
 have ow:Below w.heap.size w w2:=by
  rw[pS];exact((((Fv _ w).alloc (Ab _) _).alloc (by simp) _).alloc (by simp;omega) _).alloc (by simp;omega) _
 have bW:aq w2 w.heap.size (dg (List.replicate NL 0)).toArray 207:=by
  rw[pS,<-akV];exact(((aq.new w _ _).alloc _).alloc _).alloc _
 have bO:Boxed w2 (w.heap.size+1) 168 (.slice none 0 0):=by
  rw[pS];have:=((Boxed.new (w.alloc (.cells (madeCells #[.int .u64 0] NL) 207)) 168 (.slice none 0 0)).alloc (.cells #[.slice (some ⟨w.heap.size,0,none⟩) NL NL] 173)).alloc (.cells #[.int .i64 (L:Int)] 3);simpa using this
 have c1:w2.cell? ⟨w.heap.size+1+1,0,none⟩=some (.slice (some ⟨w.heap.size,0,none⟩) NL NL):=by
  rw[pS];have:=((aq.new ((w.alloc (.cells (madeCells #[.int .u64 0] NL) 207)).alloc (.cells #[.slice none 0 0] 168)) #[.slice (some ⟨w.heap.size,0,none⟩) NL NL] 173).alloc (.cells #[.int .i64 (L:Int)] 3)).cell 0;simpa using this
 have c2:w2.cell? ⟨w.heap.size+1+1+1,0,none⟩=some (.int .i64 (L:Int)):=by
  rw[pS];have:=(aq.new (((w.alloc (.cells (madeCells #[.int .u64 0] NL) 207)).alloc (.cells #[.slice none 0 0] 168)).alloc (.cells #[.slice (some ⟨w.heap.size,0,none⟩) NL NL] 173)) #[.int .i64 (L:Int)] 3).cell 0;simpa using this
 have cU:((w.alloc (.cells (madeCells #[.int .u64 0] NL) 207)).alloc (.cells #[.slice none 0 0] 168)).heap.size=w.heap.size+1+1:=by simp
 rw[cU];clear pS cU qC;gi_wp2
 refine wpIn_rangeFunc_ownH rfl h1 (gf:=137) (lb:=#[.pointer (some ⟨w.heap.size+1+1,0,none⟩),.pointer (some ⟨w.heap.size+1+1+1,0,none⟩)]) rfl trivial (enters_of func137 (by kernel_rfl) rfl)
  (agQ (n-1) (by omega) (w.heap.size+1+1) (w.heap.size+1+1+1) w.heap.size N L NL Oq.o Pz xk w2 (by omega) (by omega) c1 c2) jR.trans (jR.putObj (by omega) (by omega)) (Fv _ _) (fun _=>rfl)
  (fun pre W=>(∃v,Boxed W (w.heap.size+1) 168 v/\W.ownsRow w2.heap.size 173 1 v pre.length (pre.map (r_ w.heap.size L))/\True)/\aa (fun i=>i=w.heap.size+1) w2 W)
  (fun _ _ _=>False)
  (OwnFrom.and (Own.from (holdsRow_own w2.heap.size (w.heap.size+1) 168 173 1 (fun(pre:List Nat)=>pre.length) (fun pre=>pre.map (r_ w.heap.size L)) (fun pre v=>True)) _) (fun s W W' row h hg hr=>h.eQ hg (fun k e=>Or.inr (hr k e).1)))
  (fun _ _ _ _ _ hs _ _=>hs)
  ⟨⟨_,bO,A6 _ _ _ _,trivial⟩,aa.refl _ _⟩
  (fun x a' W=>a'={tmps:=#[.int .i64 (N:Int),.int .i64 (st:Int),undef,undef,.slice none 0 0,.int .i64 (L:Int),.slice (some ⟨w.heap.size,0,none⟩) NL NL,.pointer (some ⟨w.heap.size+1,0,none⟩),r_ w.heap.size L x,.int .i64 (st:Int),.int .i64 ((st:Int) /64),.int .i64 (L:Int),.int .i64 (N:Int),.int .i64 (L:Int),.int .i64 (NL:Int),.slice (some ⟨w.heap.size,0,none⟩) NL NL,.slice (some ⟨w.heap.size,0,none⟩) NL NL,.int .i64 (L:Int),.func (.func 137) #[] #[.pointer (some ⟨w.heap.size+1+1,0,none⟩),.pointer (some ⟨w.heap.size+1+1+1,0,none⟩)],r_ w.heap.size L x,undef,undef,undef,undef,undef],defers:=[]})
  (fun x a' _ X Y row hs hg hr=>hs)
  ?assign ?body ?done ?stop
 case assign=>
  rintro l pre x W K ⟨⟨v,hv,dO,_⟩,hB⟩ hK;gi_wp2;exact hK _ _ ((KeepsOthers.refl _).from _) (jR.refl _ _ _) ⟨⟨v,hv,dO,trivial⟩,hB⟩ rfl
 case body=>
  rintro l pre x a' W hl ⟨r,hr⟩ ⟨⟨v,hv,dO,_⟩,hB⟩ rfl aw;have hc:=hv.cell;have Jk:=hB.size;simp only[r_];gi_wp2_with (gi_at_builtin;refine wpListIn_append_own _ rfl _ _ 168 rfl w2.heap.size 173 i0 (.slice none 0 0) 1 24 underlying168 hi dm dp c_ rfl (by decide) _ _ _ rfl (dO.alloc _) ⟨W.heap.size,0,none⟩ 1 1 [.slice (some ⟨w.heap.size,x*L,none⟩) L L] rfl rfl (fun j u h=>uy _ _ _ j u h) (by simp[Value.oneCell']) (by unfold maxLen;omega) (by omega) (by simp;omega) ?_;intro v' w1 bH b_ _;obtain⟨g',Lo,rfl⟩:=ownsRow_succ bH;obtain⟨mx,nP,sW,aN,mS,lN⟩:=agh hv dO hB (by omega) bH b_;have nI:=mx.cell;have hf1:=mx.frozen);refine⟨aN.from _,⟨lN _ (by omega) (by omega),lN _ (by omega) (by omega)⟩,⟨⟨_,nP,?_,trivial⟩,mS⟩⟩;simpa[r_]using sW
 case done=>
  rintro D ys W hD rfl ⟨⟨v,hv,dO,dS⟩,hB⟩ hK;have hc:=hv.cell;gi_wp2;refine⟨by simp,.inl ⟨_,_,rfl,run_takeDeferred hK,?_⟩⟩;have Jk:=hB.size;refine⟨_,results_tmp rfl _ _ _,v,rfl,?_,?_,?_⟩
  ·have:=ownsRow_putObj dO (.deferred none) hK rfl;rw[List.length_range]at this;exact CN this (by omega)
  ·have h2:aq W w.heap.size (dg (List.replicate NL 0)).toArray 207:=bW.kept hB (by omega);exact(Dh (by omega)).trans h2
  ·exact(ow.trans (hB.below (by omega) (fun k hk e=>by omega))).trans (belowK_b (w:=w) (Ab _) W D _ _ (by omega) hK rfl rfl)
 case stop=>
  rintro D c pre W _ _ h _;exact h.elim
theorem Wt(N st L:Nat)(hL:L=st/64+1)(hN:N<=100000)(bC:st<=4001)(w:World):
 Calls prog 86 #[.int .i64 (N:Int),.int .i64 (st:Int)] w fun e W'=>∃v,e=.returned v/\Ta W' (w.heap.size+1) v N L w.heap.size/\aq W' w.heap.size (dg (List.replicate (N*L) 0)).toArray 207/\aa af w W':=by
 have hm:N*L<=100000*63:=Nat.mul_le_mul hN (by omega);refine(Ga.1 (aly 6 (by omega) N st L (N*L) hL rfl hN bC (by omega) w)).mono ?_;rintro e W' ⟨v,h1,h2,h3,h4⟩;exact⟨v,h1,h2,h3,Below.kept h4 rfl⟩
end Go.Proofs.YtpdnofhackjfdaaGreatDoor
namespace Go.Proofs.YtpdnofhackjfdaaGreatDoor
open Go.Proofs.Tryz
variable {a:Act} {K:Act->World->Prop} {ops:Array Oper} {s:ByteArray} {c:Code} {Q:Exit->Act->World->Prop} {aD wf:List Nat} {xs:List Value} {N b aj i id ip k n:Nat} {o oL:Oper} {P:Program} {v v':Value} {W w w' w7 wr:World} {S:World->Prop}
def FR(ro:Option Nat):Fence:={Fence.wide with round:=ro}
def JI(ops:Array Oper):Bool:=ops.all fun o=>match o.op with|.defer _=>false|_=>true
theorem alD(h:JI ops=true)(ho:ops[i]? =some o):∀c,o.op≠.defer c:=by
 intro c hc;unfold JI at h;rw[Array.all_eq_true]at h;obtain⟨aw,e⟩:=Am.1 ho;have:=h i aw;rw[e,hc]at this
 cases this
theorem apa(ro:Option Nat)(n:Nat)(r:Result Next)(h:o.upon P a K Q r):o.uponIn (FR ro) n P a K Q r:=by
 cases r with
 |ok x w'=>
  cases x with
  |value v=>exact h
  |skip=>exact h
  |defer d=>exact h
  |enter f args=>exact⟨fun hx=>(by cases hx),(Ga.2 h:CallsIn Fence.wide (n-1) P f args w' _)⟩
  |row row args=>exact⟨fun hx=>(by cases hx),fun c cs _=>(by obtain⟨v,w2,hR,hS⟩:=h c cs;exact⟨v,w2,hR,stepsIn_wide.2 hS⟩)⟩
  |_=>exact h.elim
 |halt x w'=>
  cases x<;>first|exact h|exact h.elim
theorem apI(ro:Option Nat)(n:Nat)(hQ:¬LetsOut Q)(hd:JI ops=true){K':Act->World->Prop}(hK:∀a w,K a w->K' a w)(h:wpOp P ops Q i K a w):wpOpIn (FR ro) n P ops Q i K' a w:=by
 refine wpOpIn_mono hK ?_;unfold wpOp at h;unfold wpOpIn
 cases ho:ops[i]? with
 |none=>rw[ho]at h;exact h
 |some o=>
  rw[ho]at h;simp only at h⊢;split
  ·rename_i hw
   rw[if_pos hw]at h;unfold Oper.wpIn;refine⟨fun _ _=>trivial,?_⟩;rw[Oper.semAt_plain _ _ _ (alD hd ho)];exact apa ro n _ (h.resolve_right fun hx=>hQ hx.2)
  ·rename_i hw
   rw[if_neg hw]at h;exact⟨fun _ _=>trivial,h⟩
theorem afh{md:Region.Mode}(ro:Option Nat)(n:Nat)(hQ:¬LetsOut Q)(hd:JI ops=true):∀(fuel:Nat) (dH:Array Bool) (a:Act) (w:World),wpAny P md ops Q fuel dH a w->wpAnyIn (FR ro) n P md ops Q fuel dH a w
 |0,dH,a,w,h=>h
 |fuel+1,dH,a,w,h=>⟨h.1,fun i hi=>apI ro n hQ hd (fun a w=>afh ro n hQ hd fuel _ a w) (h.2 i hi)⟩
theorem apD{ro:Option Nat}(L:Nat)(hm:P.follows .mixedOrders=true)(hQ:¬LetsOut Q)(hd:JI ops=true)(hL:ops[L]? =some oL)(aP:ops.size=L+1)(hg:oL.guard=none)(vu:Iz ops=true)(GK:J0 ops L=true)
 (h:wpAnyH P .any ops (eN P oL Q) S L ((Array.replicate (L+1) false).setIfInBounds L true) a w.drew):(Code.region id ops true).wpIn (FR ro) n P Q a w:=by
 refine wpIn_region_any hm (afh ro n hQ hd _ _ _ _ ?_);rw[aP];refine afg hL aP hg vu GK L _ a _ (by simp) (by simp[Array.getD]) (fun i o ho hl=>?_) (Cc _ _ _ _ h);simp[Array.getD]at hl
theorem apC{l:Nat}(L:Nat)(hm:P.follows .mixedOrders=true)(hQ:¬LetsOut Q)(hd:JI ops=true)(hL:ops[L]? =some oL)(aP:ops.size=L+1)(hg:oL.guard=none)(vu:Iz ops=true)(GK:J0 ops L=true)
 (h:wpAnyH P .any ops (eN P oL Q) S L ((Array.replicate (L+1) false).setIfInBounds L true) a w.drew):(Code.region id ops true).wpIn (Fence.wide.inRound l) n P Q a w:=
 apD (ro:=some l) L hm hQ hd hL aP hg vu GK h
def QM(Q:Exit->Act->World->Prop):Exit->Act->World->Prop
 |.normal,a,w=>Q .normal a w
 |_,_,_=>False
theorem j9(h:c.wp P (QM Q) a w):c.wp P Q a w:=wp_mono h fun e a w h=>by cases e<;>first|exact h|exact h.elim
theorem apB{F:Fence}(h:c.wpIn F n P (QM Q) a w):c.wpIn F n P Q a w:=wpIn_mono h fun e a w h=>by cases e<;>first|exact h|exact h.elim
theorem jy(h:Q .normal a w):QM Q .normal a w:=h
theorem akj(Q:Exit->Act->World->Prop):¬LetsOut (QM Q):=fun⟨_,_,h⟩=>h
end Go.Proofs.YtpdnofhackjfdaaGreatDoor
namespace Go.Proofs.YtpdnofhackjfdaaGreatDoor
open Go.Proofs.Tryz
open Go.RowKit Go.Maps
attribute [local go_sem] E8
variable {a:Act} {K:Act->World->Prop} {ops:Array Oper} {s:ByteArray} {c:Code} {Q:Exit->Act->World->Prop} {aD wf:List Nat} {xs:List Value} {N b aj i id ip k n:Nat} {o oL:Oper} {P:Program} {v v':Value} {W w w' w7 wr:World} {S:World->Prop}
structure OG where
 ob:Nat
 lo:Nat
 hi:Nat
 mb:Nat
 c:Nat
 vs:List Sv
 ms:List MS
 x:CX
 st:Int
 G:Int
 cN:Nat
 cb:Nat
 aD:List Nat
 fh:Nat
 cf:Nat
 FB:Nat
 rh:Nat
 cr:Nat
 WB:Nat
 nr:Nat
 L:Nat
def OG.bv(g:OG):Value:=.slice (some ⟨g.cN,0,none⟩) g.aD.length g.cb
def OG.fv(g:OG):Value:=.slice (some ⟨g.fh,0,none⟩) g.aD.length g.cf
def OG.rv(g:OG):Value:=.slice (some ⟨g.rh,0,none⟩) g.nr g.cr
structure OG.Ok(g:OG):Prop where
 fL:eW g.ms
 q:iL g.G g.ms
 bJ:g.ms.length<=4001
 size:g.x.s.size<=10000000
 aB:0<=g.x.aB/\g.x.aB<=1000000000000
 Iq:g.L=g.ms.length/64+1
 bg:NY g.x.s g.aD
 ac5:g.nr=min g.x.s.size 4100+1
 OT:NR g.ob g.lo g.hi g.mb g.FB
 Lf:NR g.ob g.lo g.hi g.mb g.WB
 ID:g.ob≠g.mb/\¬(g.lo<=g.ob/\g.ob<g.hi)/\g.ob≠0/\g.ob≠1
 ne:g.WB≠g.FB/\(g.WB≠g.cN/\g.WB≠g.fh/\g.WB≠g.rh)/\(g.FB≠g.cN/\g.FB≠g.fh/\g.FB≠g.rh)/\(g.ob≠g.cN/\g.ob≠g.fh/\g.ob≠g.rh)
structure il(w:World)(g:OG)(aj:Nat)(wf wr:List Nat):Prop where
 rk:zF w g.ob g.lo g.hi g.mb g.c g.vs g.ms g.x g.st g.G g.bv g.fv (aj:Int) g.rv
 bg:∀k,k<g.aD.length->w.cell? ⟨g.cN,k,none⟩=some (.int .i64 (bd g.x.s (g.aD.getD k 0):Int))
 fh:∀k,k<g.aD.length->w.cell? ⟨g.fh,k,none⟩=some (r_ g.FB g.L k)
 rh:∀k,k<g.nr->w.cell? ⟨g.rh,k,none⟩=some (r_ g.WB g.L k)
 lt:g.cN<w.heap.size/\g.fh<w.heap.size/\g.rh<w.heap.size
 bf:aq w g.FB (dg wf).toArray 207
 bw:aq w g.WB (dg wr).toArray 207
 fl:wf.length=g.aD.length*g.L/\fY wf
 wl:wr.length=g.nr*g.L/\fY wr
theorem il.kept{g:OG}{wr:List Nat}(h:il w g aj wf wr)(k:aa af w w'):il w' g aj wf wr where
 rk:=h.rk.kept k (fun h=>h) (fun h=>h) (fun _ _ _ h=>h) (fun h=>h) (fun h=>h)
 bg i hi:=(k.cell (p:=⟨g.cN,i,none⟩) h.lt.1 (fun h=>h)).trans (h.bg i hi)
 fh i hi:=(k.cell (p:=⟨g.fh,i,none⟩) h.lt.2.1 (fun h=>h)).trans (h.fh i hi)
 rh i hi:=(k.cell (p:=⟨g.rh,i,none⟩) h.lt.2.2 (fun h=>h)).trans (h.rh i hi)
 lt:=by have:=k.size;have:=h.lt;omega
 bf:=h.bf.kept k (fun h=>h)
 bw:=h.bw.kept k (fun h=>h)
 fl:=h.fl
 wl:=h.wl
theorem il.W8{g:OG}{wr xK:List Nat}(h:il w g aj wf wr)(hg:g.Ok)(k:aa (fun i=>i=g.WB) w w')(hb:aq w' g.WB (dg xK).toArray 207)(hl:xK.length=g.nr*g.L/\fY xK):il w' g aj wf xK where
 rk:=h.rk.row k hg.Lf
 bg i hi:=(k.cell (p:=⟨g.cN,i,none⟩) h.lt.1 (fun e=>hg.ne.2.1.1 e.symm)).trans (h.bg i hi)
 fh i hi:=(k.cell (p:=⟨g.fh,i,none⟩) h.lt.2.1 (fun e=>hg.ne.2.1.2.1 e.symm)).trans (h.fh i hi)
 rh i hi:=(k.cell (p:=⟨g.rh,i,none⟩) h.lt.2.2 (fun e=>hg.ne.2.1.2.2 e.symm)).trans (h.rh i hi)
 lt:=by have:=k.size;have:=h.lt;omega
 bf:=h.bf.kept k (fun e=>hg.ne.1 e.symm)
 bw:=hb
 fl:=h.fl
 wl:=hl
theorem il.aee{g:OG}{RW wr:List Nat}(h:il w g aj wf wr)(hg:g.Ok)(k:aa (fun i=>i=g.FB) w w')(hb:aq w' g.FB (dg RW).toArray 207)(hl:RW.length=g.aD.length*g.L/\fY RW):il w' g aj RW wr where
 rk:=h.rk.row k hg.OT
 bg i hi:=(k.cell (p:=⟨g.cN,i,none⟩) h.lt.1 (fun e=>hg.ne.2.2.1.1 e.symm)).trans (h.bg i hi)
 fh i hi:=(k.cell (p:=⟨g.fh,i,none⟩) h.lt.2.1 (fun e=>hg.ne.2.2.1.2.1 e.symm)).trans (h.fh i hi)
 rh i hi:=(k.cell (p:=⟨g.rh,i,none⟩) h.lt.2.2 (fun e=>hg.ne.2.2.1.2.2 e.symm)).trans (h.rh i hi)
 lt:=by have:=k.size;have:=h.lt;omega
 bf:=hb
 bw:=h.bw.kept k (fun e=>hg.ne.1 e)
 fl:=hl
 wl:=h.wl
theorem il.anX{g:OG}{wr:List Nat}(h:il w g aj wf wr)(hg:g.Ok)(b:Nat):il (w.setCell ⟨g.ob,10,none⟩ (.int .i64 (b:Int))) g b wf wr:=by
 have k:aa (fun i=>i=g.ob) w (w.setCell ⟨g.ob,10,none⟩ (.int .i64 (b:Int))):=(aa.refl (fun i=>i=g.ob) w).setCell (p:=⟨g.ob,10,none⟩) (Or.inl rfl) _;have hO:=h.rk.o.setCell 10 (.int .i64 (b:Int));refine{rk:=⟨?_,h.rk.iw.kept k (fun e=>hg.ID.1 e.symm),fun i a b=>(h.rk.we i a b).kept k (fun j h1 h2 e=>hg.ID.2.1 (by subst e;exact⟨h1,h2⟩)) h.rk.le,Bb h.rk.le k.size,h.rk.j8.kept k (fun e=>hg.ID.2.2.1 e.symm) (fun e=>hg.ID.2.2.2 e.symm)⟩,bg:=fun i hi=>?_,fh:=fun i hi=>?_,rh:=fun i hi=>?_,lt:=?_,bf:=?_,bw:=?_,fl:=h.fl,wl:=h.wl}
 ·simpa[Hg]using hO
 ·exact(k.cell (p:=⟨g.cN,i,none⟩) h.lt.1 (fun e=>hg.ne.2.2.2.1 e.symm)).trans (h.bg i hi)
 ·exact(k.cell (p:=⟨g.fh,i,none⟩) h.lt.2.1 (fun e=>hg.ne.2.2.2.2.1 e.symm)).trans (h.fh i hi)
 ·exact(k.cell (p:=⟨g.rh,i,none⟩) h.lt.2.2 (fun e=>hg.ne.2.2.2.2.2 e.symm)).trans (h.rh i hi)
 ·have:=k.size;have:=h.lt;omega
 ·exact h.bf.kept k hg.OT.1
 ·exact h.bw.kept k hg.Lf.1
def zG(g:OG)(ws:List Nat)(r i:Nat):Prop:=∀u:Nat,u<g.ms.length->gd ws (r*g.L) u=dP g.ms g.x u i
def OG.from(g:OG)(b:Nat):Nat:=bd g.x.s (g.aD.getD b 0)
def uT(g:OG)(wr:List Nat)(b i:Nat):Prop:=∀j,i<=j->j<=g.aD.getD (b+1) 0->zG g wr (bd g.x.s j-g.from b) j
attribute [local go_sem] E8
def ru(k N:Nat):List Nat:=((List.range N).drop k).reverse
theorem aaq(N:Nat):ru N N=[]:=by unfold ru;simp
theorem aas(h:k<N):ru k N=ru (k+1) N++[k]:=by
 unfold ru;rw[Bj (by simpa using h),List.reverse_cons];simp
theorem aar(k N:Nat):(ru k N).length=N-k:=by unfold ru;simp
theorem ahm{l:List Nat}{x:Nat}(hk:k<=N)(h:l++[x]=ru k N):k<N/\x=k/\l=ru (k+1) N:=by
 by_cases e:k=N
 ·subst e;rw[aaq]at h;simp at h
 ·have aw:k<N:=by omega
  rw[aas aw]at h;have h1:=List.append_inj' h rfl;refine⟨aw,?_,h1.1⟩;simpa using h1.2
theorem afY(w:World)(a:Option Addr)(N c:Nat):Calls prog 115 #[.slice a N c] w fun e w'=>e=.returned (.func (.func 142) #[] #[.pointer (some ⟨w.heap.size,0,none⟩)])/\w'=w.alloc (.cells #[.slice a N c] 22):=by
 go_in
 go_wp2_with fail
 go_ret
 exact⟨rfl,rfl⟩
abbrev Iy(N:Nat):={d:Nat//d<N}
def OV(p:Nat->Nat){N:Nat}(x:Iy N):Array Value:=#[.int .i64 (x.1:Int),.int .i64 (p x.1:Int)]
theorem afX(n:Nat)(hn:1<=n)(l Bs pb N c:Nat)(p:Nat->Nat)(a:Option Addr)(ha:0<N->a=some ⟨pb,0,none⟩)(xk:N<=10000000)(J Jx:List (Iy N)->World->Prop)
 (hY:∀pre x W,J pre W->pre.length<N->YieldAt Fence.wide (n-1) prog l (OV p x) W fun e W'=>
   (e=.returned (.bool true)/\J (pre++[x]) W'/\jR Bs pb W W')\/(e=.returned (.bool false)/\Jx (pre++[x]) W'))
 (W:World)(c1:W.cell? ⟨Bs,0,none⟩=some (.slice a N c))(c2:∀d,d<N->W.cell? ⟨pb,d,none⟩=some (.int .i64 (p d:Int)))(hJ:AbidesFrom W.heap.size J)(h0:J [] W):
 CallsIn Fence.wide n prog 142 #[.func (.yield l) #[] #[],.pointer (some ⟨Bs,0,none⟩)] W fun e W'=>(∃v,e=.returned v)/\
  ((∃ys,ys.map (·.1)=ru 0 N/\J ys W')\/(∃pre,True/\Jx pre W')):=by
 refine callsIn_of_wp func142 rfl trivial ?_ rfl;simp only[ntmps142,Dl,Av,A8,Nat.reduceAdd,Nat.reduceSub,De,Df,D2,Dm,C7,C0];gi_wp2
 gi_loopw [3] (fun i wr=>∃(k:Nat) (pre:List (Iy N)),k<=N/\i=.int .i64 ((k:Int)-1)/\Hid (pre.map (·.1)=ru k N)/\Hid (J pre wr)/\Hid (jR Bs pb W wr))
  (fun i _=>(intOf i+1).toNat)
 case atStart=>exact⟨N,[],Ab _,rfl,(aaq N).symm,h0,jR.refl _ _ _⟩
 case round=>
  obtain⟨k,pre,hk,rfl,HP,Kr,HB⟩:=hrel;have d1:wr.cell? ⟨Bs,0,none⟩=some (.slice a N c):=HB.o.cell.1.trans c1;by_cases aw:0<k
  ·obtain⟨m,rfl⟩:∃m,k=m+1:=⟨k-1,by omega⟩
   have Qn:m<N:=(by omega);obtain rfl:=ha (by omega);have d2:wr.cell? ⟨pb,m,none⟩=some (.int .i64 (p m:Int)):=(Bz (w:=W) (a:=⟨pb,m,none⟩) HB.o.2).trans (c2 m Qn);have cT:pre.length=N-(m+1):=by have:=congrArg List.length HP.o;simpa[aar]using this
   obtain⟨fn,tmps,assign,body,hy,hR⟩:=hY pre ⟨m,Qn⟩ wr Kr.o (by omega);have HR:=ab hR;simp only[OV]at hy;have em:((m+1:Nat):Int)-1=(m:Int):=(by omega);rw[em];clear hR em cT;gi_wp2;refine HR.o.mono ?_;rintro e W3 (⟨rfl,FA,bA⟩|⟨rfl,hJx3⟩)
   ·have SC:=ab FA;have iN:=ab bA;clear FA bA hy;gi_wp2;go_roundw
    case rel=>exact⟨m,pre++[⟨m,Qn⟩],by omega,rfl,(by show _=_;rw[Ci,HP.o,aas Qn];rfl),SC,HB.o.trans iN.o⟩
    case measure=>simp[intOf]
   ·gi_wp2
    refine Bi (Dj rfl _ _ _) rfl ?_;exact⟨⟨_,rfl⟩,.inr ⟨_,trivial,hJx3⟩⟩
  ·have vD:k=0:=(by omega);subst vD;gi_wp2;go_end0;exact⟨⟨_,rfl⟩,.inl ⟨pre,HP.o,Kr.o⟩⟩
theorem afZ(n:Nat)(hn:1<=n)(Bs pb N c:Nat)(p:Nat->Nat)(a:Option Addr)(ha:0<N->a=some ⟨pb,0,none⟩)(xk:N<=10000000)(w:World)(tR:Bs<w.heap.size)(dX:pb<w.heap.size)
 (c1:w.cell? ⟨Bs,0,none⟩=some (.slice a N c))(c2:∀d,d<N->w.cell? ⟨pb,d,none⟩=some (.int .i64 (p d:Int))):
 SeqStopsK Fence.wide n prog 142 #[.pointer (some ⟨Bs,0,none⟩)] (fun x:Iy N=>OV p x) (jR Bs pb) (fun ys=>ys.map (·.1)=ru 0 N) (fun pre=>True) N w:=fun l J Jx W hW hJ _ hY h0=>
 afX n hn l Bs pb N c p a ha xk J Jx hY W ((hW.cell (p:=⟨Bs,0,none⟩) tR).trans c1) (fun d hd=>(hW.cell (p:=⟨pb,d,none⟩) dX).trans (c2 d hd)) hJ h0
