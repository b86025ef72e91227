/- Package whole's  -/
import Derived.Test.YtpdnofhackjfdaaGreatDoorP22
set_option linter.all false
set_option maxRecDepth 100000
set_option maxHeartbeats 4000000
namespace Go.Proofs.YtpdnofhackjfdaaGreatDoor
open Go.Proofs.Tryz
open Go.RowKit Go.Maps
variable {a:Act} {K:Act->World->Prop} {ops:Array Oper} {s:ByteArray} {c:Code} {Q:Exit->Act->World->Prop} {aH wf:List Nat} {xs:List Value} {N b aq i id ip k n:Nat} {o oL:Oper} {P:Program} {v v':Value} {W w w' w7 wr:World} {S:World->Prop}
structure AD(s:ByteArray)(aH:List Nat):Prop where
 pos:1<=aH.length
 zero:aH.getD 0 0=0
 step:∀k,k+1<aH.length->aH.getD k 0<=aH.getD (k+1) 0/\bd s (aH.getD (k+1) 0)<=bd s (aH.getD k 0)+4099
 xB:4096*(aH.length-1)<=bd s (aH.getD (aH.length-1) 0)
 in_:∀k,aH.getD k 0<=(aJ s).length
theorem Js(l:List Nat)(a k:Nat):(l++[a]).getD k 0=if k<l.length then l.getD k 0 else if k=l.length then a else 0:=by
 simp only[Af];by_cases h:k<l.length
 ·rw[if_pos h,Ay h]
 ·rw[if_neg h];by_cases e:k=l.length
  ·subst e;simp
  ·rw[if_neg e,Cg (by simp;omega)];rfl
theorem AD.start(s:ByteArray):AD s [0]:=⟨by simp,by simp,fun k h=>by simp at h,by simp[sS],fun k=>by cases k<;>simp⟩
theorem AD.push(h:AD s aH)(hi:i<=(aJ s).length)(h1:aH.getD (aH.length-1) 0<=i)(h2:bd s i<=bd s (aH.getD (aH.length-1) 0)+4099):(1<=(aH++[i]).length/\(aH++[i]).getD 0 0=0/\(∀k,k+1<(aH++[i]).length->(aH++[i]).getD k 0<=(aH++[i]).getD (k+1) 0/\bd s ((aH++[i]).getD (k+1) 0)<=bd s ((aH++[i]).getD k 0)+4099)/\∀k,(aH++[i]).getD k 0<=(aJ s).length):=by
 have hp:=h.pos;refine⟨by simp,by rw[Js,if_pos (by omega)];exact h.zero,fun k hk=>?_,fun k=>?_⟩
 ·rw[Aj,Fk]at hk;rw[Js,Js,if_pos (by omega)];by_cases e:k+1<aH.length
  ·rw[if_pos e];exact h.step k e
  ·rw[if_neg e,if_pos (by omega),show k=aH.length-1 by omega];exact⟨h1,h2⟩
 ·rw[Js];split
  ·exact h.in_ k
  ·split
   ·exact hi
   ·omega
structure OY(s:ByteArray)(aH:List Nat):Prop where
 cM:2<=aH.length
 zero:aH.getD 0 0=0
 eQ:aH.getD (aH.length-1) 0=(aJ s).length
 step:∀k,k+1<aH.length->aH.getD k 0<=aH.getD (k+1) 0/\bd s (aH.getD (k+1) 0)<=bd s (aH.getD k 0)+4099
 bN:aH.length<=s.size/4096+2
 in_:∀k,aH.getD k 0<=(aJ s).length
def qJ(s:ByteArray)(aH:List Nat):List Value:=aH.map fun i=>GW (bd s i:Int)
theorem aaH(h:k<aH.length):(qJ s aH)[k]? =some (GW (bd s (aH.getD k 0):Int)):=by
 unfold qJ;simp[Af,Ae h]
theorem AD.done(h:AD s aH)(h1:aH.getD (aH.length-1) 0<=(aJ s).length)(h2:s.size<=bd s (aH.getD (aH.length-1) 0)+4099):OY s (aH++[(aJ s).length]):=by
 have hb:bd s (aJ s).length=s.size:=nI (Ab _);obtain⟨a1,a2,a3,a4⟩:=h.push (Ab _) h1 (by rw[hb];exact h2);have hp:=h.pos;refine⟨by simp;omega,a2,by rw[Js];simp,a3,?_,a4⟩;have:=h.xB;have:=i_ s (aH.getD (aH.length-1) 0);rw[Aj,Fk];omega
structure qz(w wr:World)(s:ByteArray)(v:Value)(aH:List Nat)(i ip:Nat):Prop where
 bg:AD s aH
 le:aH.getD (aH.length-1) 0<=i
 Ol:bd s i<=bd s (aH.getD (aH.length-1) 0)+4099
 xT:i<=(aJ s).length
 row:wr.ownsRow w.heap.size 3 1 v aH.length (qJ s aH)
 iter:wr.heap[w.heap.size+1]? =some (.stringIter s ip)
 off:v.ownBlock≠some (w.heap.size+1)
 kept:aa ai w wr
 size:w.heap.size+2<=wr.heap.size
theorem qz.bN(h:qz w wr s v aH i ip):aH.length<=s.size/4096+1:=by
 have:=h.bg.xB;have:=i_ s (aH.getD (aH.length-1) 0);have:=h.bg.pos;omega
theorem qz.DN(h:qz w wr s v aH i ip)(Ih:Nat):qz w (wr.iterAt (w.heap.size+1) s Ih) s v aH i Ih:=by
 have k:aa (fun i=>i=w.heap.size+1) wr (wr.iterAt (w.heap.size+1) s Ih):=(aa.refl (fun i=>i=w.heap.size+1) wr).iterAt (k:=w.heap.size+1) (Or.inl rfl) s _;exact⟨h.bg,h.le,h.Ol,h.xT,bU h.row k (fun b hb hx=>h.off (by rw[hb,hx])),Lib.iterAt_heap wr _ s _ _ h.iter,h.off,h.kept.b_ k (fun i hi he=>by omega),by rw[Fw];exact h.size⟩
theorem qz.next(h:qz w wr s v aH i ip)(hi:i<(aJ s).length)(hb:bd s i<bd s (aH.getD (aH.length-1) 0)+4096):qz w wr s v aH (i+1) ip:=by
 have bD:=pY hi;exact⟨h.bg,by have:=h.le;omega,by omega,hi,h.row,h.iter,h.off,h.kept,h.size⟩
theorem qz.Ow(h:qz w wr s v aH i ip)(hi:i<(aJ s).length)(hb:bd s (aH.getD (aH.length-1) 0)+4096<=bd s i)(k0:aa ai wr W)
 (bC:w7.ownsRow w.heap.size 3 1 v' (aH.length+1) (qJ s aH++[GW (bd s i:Int)]))(hg:W.grownBy w7 v.ownBlock)(cI:v'.ownBlock=v.ownBlock\/v'.ownBlock=some W.heap.size):qz w w7 s v' (aH++[i]) (i+1) ip:=by
 have k7:aa (fun j=>v.ownBlock=some j) wr w7:=(k0.mono (fun i hx=>hx.elim)).eP hg (fun j hj=>Or.inl hj);obtain⟨a1,a2,a3,a4⟩:=h.bg.push h.xT h.le h.Ol;have hl:(aH++[i]).getD ((aH++[i]).length-1) 0=i:=by rw[Js];simp
 have ajw:=h.bg.xB;have wo:=h.bg.pos;have bD:=pY hi;refine⟨⟨a1,a2,a3,by rw[hl,Aj,Fk];omega,a4⟩,by rw[hl];omega,by rw[hl];omega,hi,?_,(k7.block _ (by have:=h.size;omega) h.off).trans h.iter,?_,h.kept.b_ k7 (fun j hj he=>by have:=(dw h.row he).1;omega),Bh h.size k7.size⟩
 ·rw[Aj];have:qJ s (aH++[i])=qJ s aH++[GW (bd s i:Int)]:=by simp[qJ]
  rw[this];exact bC
 ·rcases cI with e|e
  ·rw[e];exact h.off
  ·rw[e];intro hx;have:=C9 hx;have:=h.size;have:=k0.size;omega
theorem qz.done(h:qz w wr s v aH (aJ s).length ip)(k0:aa ai wr W)
 (bC:w7.ownsRow w.heap.size 3 1 v' (aH.length+1) (qJ s aH++[GW (s.size:Int)]))(hg:W.grownBy w7 v.ownBlock):aa ai w w7/\w7.ownsRow w.heap.size 3 1 v' (aH++[(aJ s).length]).length (qJ s (aH++[(aJ s).length]))/\OY s (aH++[(aJ s).length]):=by
 have k7:aa (fun j=>v.ownBlock=some j) wr w7:=(k0.mono (fun i hx=>hx.elim)).eP hg (fun j hj=>Or.inl hj);have hb:bd s (aJ s).length=s.size:=nI (Ab _);refine⟨h.kept.b_ k7 (fun j hj he=>by have:=(dw h.row he).1;omega),?_,h.bg.done h.le (by rw[<-hb];exact h.Ol)⟩;have:qJ s (aH++[(aJ s).length])=qJ s aH++[GW (s.size:Int)]:=by simp[qJ,hb]
 rw[this,Aj];exact bC
theorem agX(s:ByteArray)(w:World)(hs:s.size<=1000000000):
 Calls prog 85 #[.string s] w fun e w'=>∃(v:Value) (aH:List Nat),e=.returned v/\aa ai w w'/\w'.ownsRow w.heap.size 3 1 v aH.length (qJ s aH)/\OY s aH:=by
 obtain⟨i0,cW,dm,du,de⟩:=Bo Tryz.Ig
 have dD:Hid (qz w ((w.alloc (.cells #[GW 0] 3)).iter s 0) s (.slice (some (GB w.heap.size 0)) 1 1) [0] 0 (bd s 0)):=by
  refine⟨AD.start s,Ab _,by simp,Al _,?_,?_,?_,((aa.refl ai w).alloc _).alloc _,by simp[World.iter]⟩
  ·refine⟨by simp[qJ],Or.inr ⟨w.heap.size,1,#[GW 0],rfl,Ab _,?_,Ab _,by unfold maxLen;omega,by simp,by simp[qJ,sS]⟩⟩;exact(au.new w #[GW 0] 3).alloc _
  ·have:=World.iter_heap (w.alloc (.cells #[GW 0] 3)) s 0;rw[fP]at this;rw[sS];exact this
  ·intro hx;have:w.heap.size=w.heap.size+1:=C9 hx;omega
 go_in
 go_wp2_with fail
 go_loopg [3] (aJ s).length (fun kk v wr=>∃(i:Nat) (aH:List Nat),Hid (qz w wr s v aH i (bd s i))/\kk=(aJ s).length-i)
 case atStart=>exact⟨0,[0],dD,rfl⟩
 case round=>
  obtain⟨i,aH,HB,eE⟩:=hrel;clear dD;have hi:=HB.o.xT;have dy:=HB.o.bN;have wo:=HB.o.bg.pos;by_cases az:i<(aJ s).length
  ·have aW:=xu az;have hn:=(fun ty=>Lib.run_next_any_at (P:=prog) wr (w.heap.size+1) s (bd s i) ty HB.o.iter aW);rw[<-uc az]at hn;have gF:=ab (HB.o.DN (bd s (i+1)));obtain⟨w1,oM⟩:∃w1,w1=wr.iterAt (w.heap.size+1) s (bd s (i+1)):=⟨_,rfl⟩
   rw[<-oM]at hn gF;clear oM HB;generalize((Utf8.decode s (bd s i)).1:Int)=cc at hn;obtain⟨g,c,hv,l1,l2,l3,l4,l5⟩:=mO gF.o.row (by omega);subst hv;obtain⟨n,pE⟩:∃n,aH.length=n+1:=⟨aH.length-1,by omega⟩
   have cl:w1.cell? (GB g n)=some (GW (bd s (aH.getD n 0):Int)):=(by rw[l4 n (by omega),aaH (by omega)]);have CO:aH.length-1=n:=(by omega);have gJ:=i_ s (aH.getD n 0);have PU:=(ab fun(h:bd s (aH.getD n 0)+4096<=bd s i) {W w7:World} {v':Value}=>gF.o.Ow (W:=W) (w7:=w7) (v':=v') az (by rw[CO];exact h));have NX:=(ab fun(h:bd s i<bd s (aH.getD n 0)+4096)=>gF.o.next az (by rw[CO];exact h));have ik:=ab gF.o.row;have rJ:=ab gF.o.size;clear l4 l5 CO;rw[pE]at ik PU NX dy⊢;have mu:=ab pE;clear pE wo l3;generalize uD:bd s (aH.getD n 0)=lb at*;clear uD;by_cases gW:lb+4096<=bd s i
   ·have ajz:(lb:Int)+4096<=(bd s i:Int):=(by omega);go_wp2_with (at_builtin;refine Ao _ rfl _ _ 22 rfl w.heap.size 3 i0 _ 1 8 underlying22 cW dm du de rfl (by decide) _ _ _ rfl (ik.o.alloc _) (GB w1.heap.size 0) 1 1 [GW (bd s i:Int)] rfl rfl ?c1 ?c2 ?c3 ?c4 ?c5 ?_)
    case c1=>exact Is _ _
    case c2=>exact wv _
    case c3=>unfold maxLen;omega
    case c4=>omega
    case c5=>have:=rJ.o;simp;omega
    intro v' w7 bL cy eF cI;obtain⟨jl,c',rfl⟩:=cw bL;have aA:=ab (PU.o gW ((aa.refl ai w1).alloc _) bL cy (by simpa using cI));clear bL cy eF cI;go_wp2_with fail;go_roundg ((aJ s).length-(i+1))
    case measure=>omega
    case rel=>exact⟨i+1,_,aA,rfl⟩
   ·have ajz:¬(lb:Int)+4096<=(bd s i:Int):=(by omega);have aA:=ab (NX.o (by omega));go_wp2_with fail;go_roundg ((aJ s).length-(i+1))
    case measure=>omega
    case rel=>exact⟨i+1,_,aA,rfl⟩
  ·have hi':i=(aJ s).length:=(by omega);subst hi';have gx:bd s (aJ s).length=s.size:=nI (Ab _);have hn:=(fun ty=>Lib.run_next_end_at (P:=prog) wr (w.heap.size+1) s (bd s (aJ s).length) ty HB.o.iter (by omega));obtain⟨ao,c,rfl⟩:=cw HB.o.row;have rJ:=ab HB.o.size;have FI:=(ab fun(W w7:World) (v':Value)=>HB.o.done (W:=W) (w7:=w7) (v':=v'));have ik:=ab HB.o.row;clear gx;go_wp2_with (at_builtin;refine Ao _ rfl _ _ 22 rfl w.heap.size 3 i0 _ 1 8 underlying22 cW dm du de rfl (by decide) _ _ _ rfl (ik.o.alloc _) (GB wr.heap.size 0) 1 1 [GW (s.size:Int)] rfl rfl ?c1 ?c2 ?c3 ?c4 ?c5 ?_)
   case c1=>exact Is _ _
   case c2=>exact wv _
   case c3=>unfold maxLen;omega
   case c4=>omega
   case c5=>have:=rJ.o;simp;omega
   intro v' w7 bL cy eF cI;obtain⟨jl,c',rfl⟩:=cw bL;have aA:=ab (FI.o _ _ _ ((aa.refl ai wr).alloc _) bL cy);clear bL cy eF cI;go_wp2_with fail;go_ret;exact⟨_,_,rfl,aA.o.1,aA.o.2.1,aA.o.2.2⟩
attribute [local go_sem] E8
def jW(a b:Nat)(W W':World):Prop:=W'.heap[a]? =W.heap[a]? /\W'.heap[b]? =W.heap[b]?
theorem jW.refl(a b:Nat)(W:World):jW a b W W:=⟨rfl,rfl⟩
theorem jW.trans{a:Nat}{A B C:World}(h:jW a b A B)(k:jW a b B C):jW a b A C:=⟨k.1.trans h.1,k.2.trans h.2⟩
theorem jW.putObj{a:Nat}(ha:a<w.heap.size)(hb:b<w.heap.size)(W:World)(l:Nat)(o o':Obj)(hl:w.heap.size<=l)(h:W.heap[l]? =some o)(_:o.isCells=false)(_:o.isWalk=false):jW a b W (W.putObj l o'):=
 ⟨Di (by omega),Di (by omega)⟩
theorem jW.cell{a:Nat}{W':World}(h:jW a b W W'):W'.cell? (GB a 0)=W.cell? (GB a 0)/\W'.cell? (GB b 0)=W.cell? (GB b 0):=⟨Cc (w:=W) h.1,Cc (w:=W) h.2⟩
def sG(WB L r:Nat):Value:=.slice (some ⟨WB,r*L,none⟩) L L
theorem ahB(n:Nat)(hn:1<=n)(l Bs Bn WB N L NL:Nat)(BY:NL=N*L)(hL:0<L)(xN:NL<=10000000)(J Jx:List Nat->World->Prop)
 (hY:∀pre x W,J pre W->pre.length<N->YieldAt Fence.wide (n-1) prog l #[sG WB L x] W fun e W'=>
   (e=.returned (.bool true)/\J (pre++[x]) W'/\jW Bs Bn W W')\/(e=.returned (.bool false)/\Jx (pre++[x]) W'))
 (W:World)(c1:W.cell? (GB Bs 0)=some (.slice (some (GB WB 0)) NL NL))(c2:W.cell? (GB Bn 0)=some (GW (L:Int)))(hJ:AbidesFrom W.heap.size J)(h0:J [] W):
 CallsIn Fence.wide n prog 137 #[.func (.yield l) #[] #[],BT Bs 0,BT Bn 0] W fun e W'=>(∃v,e=.returned v)/\
  ((∃ys,ys=List.range N/\J ys W')\/(∃pre,pre<+:List.range N/\Jx pre W')):=by
 refine callsIn_of_wp func137 rfl trivial ?_ rfl;simp only[ntmps137,Dm,Ax,Bf,Nat.reduceAdd,Nat.reduceSub,Df,Dg,Dz,Do,Dp,C4];have Pu:=ab BY;clear BY;gi_wp2
 gi_loopw [4] (fun i wr=>∃k p:Nat,k<=N/\Hid (p=k*L)/\i=GW (p:Int)/\Hid (J (List.range k) wr)/\Hid (jW Bs Bn W wr))
  (fun i _=>NL-(intOf i).toNat)
 case atStart=>exact⟨0,0,Al _,(by show _=_;omega),rfl,h0,jW.refl _ _ _⟩
 case round=>
  obtain⟨k,p,hk,HP,rfl,Ll,HB⟩:=hrel;have d1:wr.cell? (GB Bs 0)=some (.slice (some (GB WB 0)) NL NL):=HB.o.cell.1.trans c1;have d2:wr.cell? (GB Bn 0)=some (GW (L:Int)):=HB.o.cell.2.trans c2;by_cases az:k<N
  ·have hpL:p+L<=NL:=by
    have:=Bv L (show k+1<=N by omega);rw[HP.o,Pu.o];rw[Cw]at this;omega
   gi_wp2
   gi_big_quiet (fail)
   have Rv:min (L:Int) ((NL-p:Nat):Int)=(L:Int):=(by omega);rw[Rv];clear Rv;have QQ:J (List.range k) (wr.drewN nq):=hJ _ wr _ none Ll.o ⟨rfl,rfl,rfl,Ab _,fun _ _ _=>rfl⟩ (fun r e=>by cases e);obtain⟨fn,tmps,assign,body,hy,hR⟩:=hY _ k _ QQ (by simp;omega);have HR:=ab hR;clear hR;have xL:k*L=p:=HP.o.symm;simp only[sG]at hy;rw[xL]at hy;clear xL QQ;have e1:(wr.drewN nq).cell? (GB Bs 0)=some (.slice (some (GB WB 0)) NL NL):=d1;gi_wp2;refine HR.o.mono ?_;rintro e W3 (⟨rfl,GH,bm⟩|⟨rfl,hJx3⟩)
   ·have e2:W3.cell? (GB Bn 0)=some (GW (L:Int)):=bm.cell.2.trans d2;have T2:=ab GH;have iL:=ab bm;clear GH bm e1 d1 d2 hy;gi_wp2;go_roundw
    case rel=>exact⟨k+1,p+L,by omega,(by show _=_;rw[HP.o,Cw];omega),by simp,(by rw[Fx];exact T2),HB.o.trans ((show jW Bs Bn wr (wr.drewN nq)from⟨rfl,rfl⟩).trans iL.o)⟩
    case measure=>simp[intOf];omega
   ·gi_wp2
    refine Bm (Dk rfl _ _ _) rfl ?_;refine⟨⟨_,rfl⟩,.inr ⟨_,?_,hJx3⟩⟩;rw[<-Fx];have:List.range (k+1)=(List.range N).take (k+1):=by rw[List.take_range];congr 1;omega
    rw[this];exact List.take_prefix _ _
  ·have xL:p=NL:=(by rw[HP.o,Pu.o,show k=N by omega]);have aA:Hid (J (List.range N) wr):=by rw[<-show k=N by omega];exact Ll
   subst xL;gi_wp2;go_end0;exact⟨⟨_,rfl⟩,.inl ⟨_,rfl,aA.o⟩⟩
theorem ahD(n:Nat)(hn:1<=n)(Bs Bn WB N L NL:Nat)(BY:NL=N*L)(hL:0<L)(xN:NL<=10000000)(w:World)(ui:Bs<w.heap.size)(hBn:Bn<w.heap.size)
 (c1:w.cell? (GB Bs 0)=some (.slice (some (GB WB 0)) NL NL))(c2:w.cell? (GB Bn 0)=some (GW (L:Int))):
 SeqStopsK Fence.wide n prog 137 #[BT Bs 0,BT Bn 0] (fun x:Nat=>#[sG WB L x]) (jW Bs Bn) (fun ys=>ys=List.range N) (fun pre=>pre<+:List.range N) N w:=fun l J Jx W hW hJ _ hY h0=>
 ahB n hn l Bs Bn WB N L NL BY hL xN J Jx hY W ((hW.cell (p:=(GB Bs 0)) ui).trans c1) ((hW.cell (p:=(GB Bn 0)) hBn).trans c2) hJ h0
theorem ahC(w:World)(a:Option Addr)(NL c L:Nat)(hL:0<L)(hL2:L<=10000000):Calls prog 110 #[.slice a NL c,GW (L:Int)] w fun e w'=>e=.returned (.func (.func 137) #[] #[BT w.heap.size 0,.pointer (some ⟨w.heap.size+1,0,none⟩)])/\w'=(w.alloc (.cells #[.slice a NL c] 173)).alloc (.cells #[GW (L:Int)] 3):=by
 have c2:((w.alloc (.cells #[.slice a NL c] 173)).alloc (.cells #[GW (L:Int)] 3)).cell? ⟨w.heap.size+1,0,none⟩=some (GW (L:Int)):=by
  have:=(au.new (w.alloc (.cells #[.slice a NL c] 173)) #[GW (L:Int)] 3).cell 0;rw[fP]at this;exact this
 go_in
 go_wp2_with fail
 go_ret
 exact⟨rfl,rfl⟩
theorem Tryz.akI:(prog.info? 207).map (fun i=>(i.zero,i.size,i.bytes))=some (some (.int .u64 0),1,8):=by kernel_rfl
theorem Tryz.akG:(prog.info? 173).map (fun i=>(i.zero,i.size,i.bytes))=some (some (.slice none 0 0),1,24):=by kernel_rfl
theorem alu(n:Nat):madeCells #[.int .u64 0] n=(dr (List.replicate n 0)).toArray:=by
 unfold madeCells dr;refine Array.ext (by simp) fun k h1 h2=>?_
 simp[Gl]
theorem ag6{w2 w1:World}{B:Nat}{t e:TypeId}{m:Nat}{ys:List Value}{tmp:Obj}(hv:Boxed W B t v)(dU:W.ownsRow w2.heap.size e 1 v k xs)(hB:aa (fun i=>i=B) w2 W)(Vt:B<w2.heap.size)(bL:w1.ownsRow w2.heap.size e 1 v' m ys)(cy:(W.alloc tmp).grownBy w1 v.ownBlock):
 Boxed w1 B t v/\Boxed (w1.setCell (GB B 0) v') B t v'/\(w1.setCell (GB B 0) v').ownsRow w2.heap.size e 1 v' m ys/\KeepsOthers W (w1.setCell (GB B 0) v')/\aa (fun i=>i=B) w2 (w1.setCell (GB B 0) v')/\(∀j,j<w2.heap.size->j≠B->(w1.setCell (GB B 0) v').heap[j]? =W.heap[j]?):=by
 have hg:∀i,v.ownBlock=some i->w2.heap.size<=i:=fun i hi=>(dw dU hi).1
 have mI:Boxed w1 B t v:=(hv.alloc tmp).kept cy (fun e=>by have:=hg B e.symm;omega);have k1:aa (fun i=>v.ownBlock=some i) W w1:=((aa.refl _ W).alloc tmp).eP cy (fun j hj=>Or.inl hj);have k2:aa (fun i=>i=B) w1 (w1.setCell (GB B 0) v'):=(aa.refl (fun i=>i=B) w1).setCell (p:=(GB B 0)) (Or.inl rfl) v';have hs:=hB.size;have cZ:=k1.size;refine⟨mI,mI.set v',bU bL k2 (fun b hb e=>by have:=(dw bL hb).1;omega),?_,(hB.b_ k1 (fun i hi he=>by have:=hg i he;omega)).trans k2,fun j hj hjB=>(k2.block j (by omega) hjB).trans (k1.block j (by omega) (fun e=>by have:=hg j e;omega))⟩;refine((KeepsOthers.alloc W tmp).trans (KeepsOthers.of_grownBy cy fun j o ej hj=>?_)).trans (KeepsOthers.setCell _ _ _);rcases(dU.alloc tmp).2 with⟨rfl,_⟩|⟨g,cap,aO,rfl,_,k_,_⟩
 ·simp[Value.ownBlock]at ej
 ·obtain rfl:g=j:=by simpa[Value.ownBlock]using ej
  rw[k_]at hj;cases hj;rfl
theorem ye{b' e size:Nat}(h:w.ownsRow b e size v n xs)(hb:b'<=b):w.ownsRow b' e size v n xs:=by
 refine⟨h.1,?_⟩;rcases h.2 with h2|⟨g,cap,aO,h3,h4,h5⟩
 ·exact Or.inl h2
 ·exact Or.inr ⟨g,cap,aO,h3,Bh hb h4,h5⟩
def Uo(w:World)(base:Nat)(v:Value)(N L WB:Nat):Prop:=w.ownsRow base 173 1 v N ((List.range N).map (sG WB L))
theorem al5(n:Nat)(hn:3<=n)(N st L NL:Nat)(hL:L=st/64+1)(BY:NL=N*L)(hN:N<=100000)(bD:st<=4001)(xN:NL<=10000000)(w:World):
 CallsIn Fence.wide n prog 86 #[GW (N:Int),GW (st:Int)] w fun e W'=>∃v,e=.returned v/\Uo W' (w.heap.size+1) v N L w.heap.size/\au W' w.heap.size (dr (List.replicate NL 0)).toArray 207/\Below w.heap.size w W':=by
 have h1:1<=n:=by omega
 obtain⟨i0,hi,dm,du,de⟩:=Bo Tryz.akG;have hdiv:(st:Int) /64+1=(L:Int):=by omega
 have hmul:(N:Int)*(L:Int)=(NL:Int):=by rw[BY];simp
 have qV:=fun W=>Go.run_make_row' (P:=prog) 173 207 (.int .u64 0) 8 underlying173 Tryz.akI rfl .i64 .i64 NL (by omega) (by omega) W
 have Pu:=ab BY;have HL:=ab hL;have QU:0<L:=by omega
 clear BY hL;refine callsIn_of_wp_marks func86 rfl trivial ?_ rfl;simp only[ntmps86,Dm,Ax,Bf,Nat.reduceAdd,Nat.reduceSub,Df,Dg,Dz,Do,Dp,C4];gi_wp2;refine⟨trivial,(Gd.2 (ahC _ (some (GB w.heap.size 0)) NL NL L QU (by have:=HL.o;omega))).mono ?_⟩;rintro e w2 ⟨rfl,ql⟩;have akn:w2.heap.size=w.heap.size+4:=by rw[ql];simp
 have oA:Below w.heap.size w w2:=by
  rw[ql];exact((((Fv _ w).alloc (Ab _) _).alloc (by simp) _).alloc (by simp;omega) _).alloc (by simp;omega) _
 have bW:au w2 w.heap.size (dr (List.replicate NL 0)).toArray 207:=by
  rw[ql,<-alu];exact(((au.new w _ _).alloc _).alloc _).alloc _
 have bO:Boxed w2 (w.heap.size+1) 168 (.slice none 0 0):=by
  rw[ql];have:=((Boxed.new (w.alloc (.cells (madeCells #[.int .u64 0] NL) 207)) 168 (.slice none 0 0)).alloc (.cells #[.slice (some (GB w.heap.size 0)) NL NL] 173)).alloc (.cells #[GW (L:Int)] 3);simpa using this
 have c1:w2.cell? ⟨w.heap.size+1+1,0,none⟩=some (.slice (some (GB w.heap.size 0)) NL NL):=by
  rw[ql];have:=((au.new ((w.alloc (.cells (madeCells #[.int .u64 0] NL) 207)).alloc (.cells #[.slice none 0 0] 168)) #[.slice (some (GB w.heap.size 0)) NL NL] 173).alloc (.cells #[GW (L:Int)] 3)).cell 0;simpa using this
 have c2:w2.cell? ⟨w.heap.size+1+1+1,0,none⟩=some (GW (L:Int)):=by
  rw[ql];have:=(au.new (((w.alloc (.cells (madeCells #[.int .u64 0] NL) 207)).alloc (.cells #[.slice none 0 0] 168)).alloc (.cells #[.slice (some (GB w.heap.size 0)) NL NL] 173)) #[GW (L:Int)] 3).cell 0;simpa using this
 have cZ:((w.alloc (.cells (madeCells #[.int .u64 0] NL) 207)).alloc (.cells #[.slice none 0 0] 168)).heap.size=w.heap.size+1+1:=by simp
 rw[cZ];clear ql cZ qV;gi_wp2
 refine wpIn_rangeFunc_ownH rfl h1 (gf:=137) (lb:=#[.pointer (some ⟨w.heap.size+1+1,0,none⟩),.pointer (some ⟨w.heap.size+1+1+1,0,none⟩)]) rfl trivial (enters_of func137 (by kernel_rfl) rfl)
  (ahD (n-1) (by omega) (w.heap.size+1+1) (w.heap.size+1+1+1) w.heap.size N L NL Pu.o QU xN w2 (by omega) (by omega) c1 c2) jW.trans (jW.putObj (by omega) (by omega)) (Fv _ _) (fun _=>rfl)
  (fun pre W=>(∃v,Boxed W (w.heap.size+1) 168 v/\W.ownsRow w2.heap.size 173 1 v pre.length (pre.map (sG w.heap.size L))/\True)/\aa (fun i=>i=w.heap.size+1) w2 W)
  (fun _ _ _=>False)
  (OwnFrom.and (Own.from (holdsRow_own w2.heap.size (w.heap.size+1) 168 173 1 (fun(pre:List Nat)=>pre.length) (fun pre=>pre.map (sG w.heap.size L)) (fun pre v=>True)) _) (fun s W W' row h hg hr=>h.eP hg (fun k e=>Or.inr (hr k e).1)))
  (fun _ _ _ _ _ hs _ _=>hs)
  ⟨⟨_,bO,A8 _ _ _ _,trivial⟩,aa.refl _ _⟩
  (fun x a' W=>a'={tmps:=#[GW (N:Int),GW (st:Int),undef,undef,.slice none 0 0,GW (L:Int),.slice (some (GB w.heap.size 0)) NL NL,.pointer (some ⟨w.heap.size+1,0,none⟩),sG w.heap.size L x,GW (st:Int),GW ((st:Int) /64),GW (L:Int),GW (N:Int),GW (L:Int),GW (NL:Int),.slice (some (GB w.heap.size 0)) NL NL,.slice (some (GB w.heap.size 0)) NL NL,GW (L:Int),.func (.func 137) #[] #[.pointer (some ⟨w.heap.size+1+1,0,none⟩),.pointer (some ⟨w.heap.size+1+1+1,0,none⟩)],sG w.heap.size L x,undef,undef,undef,undef,undef],defers:=[]})
  (fun x a' _ X Y row hs hg hr=>hs)
  ?assign ?body ?done ?stop
 case assign=>
  rintro l pre x W K ⟨⟨v,hv,dU,_⟩,hB⟩ hK;gi_wp2;exact hK _ _ ((KeepsOthers.refl _).from _) (jW.refl _ _ _) ⟨⟨v,hv,dU,trivial⟩,hB⟩ rfl
 case body=>
  rintro l pre x a' W hl ⟨r,hr⟩ ⟨⟨v,hv,dU,_⟩,hB⟩ rfl az;have hc:=hv.cell;have JX:=hB.size;simp only[sG];gi_wp2_with (gi_at_builtin;refine wpListIn_append_own _ rfl _ _ 168 rfl w2.heap.size 173 i0 (.slice none 0 0) 1 24 underlying168 hi dm du de rfl (by decide) _ _ _ rfl (dU.alloc _) (GB W.heap.size 0) 1 1 [.slice (some ⟨w.heap.size,x*L,none⟩) L L] rfl rfl (fun j u h=>uT _ _ _ j u h) (by simp[Value.oneCell']) (by unfold maxLen;omega) (by omega) (by simp;omega) ?_;intro v' w1 bL cy _;obtain⟨g',Mf,rfl⟩:=ownsRow_succ bL;obtain⟨mI,nV,qZ,aS,oB,lY⟩:=ag6 hv dU hB (by omega) bL cy;have nR:=mI.cell;have hf1:=mI.frozen);refine⟨aS.from _,⟨lY _ (by omega) (by omega),lY _ (by omega) (by omega)⟩,⟨⟨_,nV,?_,trivial⟩,oB⟩⟩;simpa[sG]using qZ
 case done=>
  rintro D ys W hD rfl ⟨⟨v,hv,dU,eF⟩,hB⟩ hK;have hc:=hv.cell;gi_wp2;refine⟨by simp,.inl ⟨_,_,rfl,run_takeDeferred hK,?_⟩⟩;have JX:=hB.size;refine⟨_,results_tmp rfl _ _ _,v,rfl,?_,?_,?_⟩
  ·have:=ownsRow_putObj dU (.deferred none) hK rfl;rw[List.length_range]at this;exact ye this (by omega)
  ·have h2:au W w.heap.size (dr (List.replicate NL 0)).toArray 207:=bW.kept hB (by omega);exact(Di (by omega)).trans h2
  ·exact(oA.trans (hB.below (by omega) (fun k hk e=>by omega))).trans (belowK_b (w:=w) (Ab _) W D _ _ (by omega) hK rfl rfl)
 case stop=>
  rintro D c pre W _ _ h _;exact h.elim
theorem XN(N st L:Nat)(hL:L=st/64+1)(hN:N<=100000)(bD:st<=4001)(w:World):
 Calls prog 86 #[GW (N:Int),GW (st:Int)] w fun e W'=>∃v,e=.returned v/\Uo W' (w.heap.size+1) v N L w.heap.size/\au W' w.heap.size (dr (List.replicate (N*L) 0)).toArray 207/\aa ai w W':=by
 have hm:N*L<=100000*63:=Nat.mul_le_mul hN (by omega);refine(Gd.1 (al5 6 (by omega) N st L (N*L) hL rfl hN bD (by omega) w)).mono ?_;rintro e W' ⟨v,h1,h2,h3,h4⟩;exact⟨v,h1,h2,h3,Below.kept h4 rfl⟩
end Go.Proofs.YtpdnofhackjfdaaGreatDoor
namespace Go.Proofs.YtpdnofhackjfdaaGreatDoor
open Go.Proofs.Tryz
variable {a:Act} {K:Act->World->Prop} {ops:Array Oper} {s:ByteArray} {c:Code} {Q:Exit->Act->World->Prop} {aH wf:List Nat} {xs:List Value} {N b aq i id ip k n:Nat} {o oL:Oper} {P:Program} {v v':Value} {W w w' w7 wr:World} {S:World->Prop}
def FR(ro:Option Nat):Fence:={Fence.wide with round:=ro}
def Kj(ops:Array Oper):Bool:=ops.all fun o=>match o.op with|.defer _=>false|_=>true
theorem al9(h:Kj ops=true)(ho:ops[i]? =some o):∀c,o.op≠.defer c:=by
 intro c hc;unfold Kj at h;rw[Array.all_eq_true]at h;obtain⟨az,e⟩:=Am.1 ho;have:=h i az;rw[e,hc]at this
 cases this
theorem apI(ro:Option Nat)(n:Nat)(r:Result Next)(h:o.upon P a K Q r):o.uponIn (FR ro) n P a K Q r:=by
 cases r with
 |ok x w'=>
  cases x with
  |value v=>exact h
  |skip=>exact h
  |defer d=>exact h
  |enter f args=>exact⟨fun hx=>(by cases hx),(Gd.2 h:CallsIn Fence.wide (n-1) P f args w' _)⟩
  |row row args=>exact⟨fun hx=>(by cases hx),fun c cs _=>(by obtain⟨v,w2,hR,hS⟩:=h c cs;exact⟨v,w2,hR,stepsIn_wide.2 hS⟩)⟩
  |_=>exact h.elim
 |halt x w'=>
  cases x<;>first|exact h|exact h.elim
theorem aqe(ro:Option Nat)(n:Nat)(hQ:¬LetsOut Q)(hd:Kj ops=true){K':Act->World->Prop}(hK:∀a w,K a w->K' a w)(h:wpOp P ops Q i K a w):wpOpIn (FR ro) n P ops Q i K' a w:=by
 refine wpOpIn_mono hK ?_;unfold wpOp at h;unfold wpOpIn
 cases ho:ops[i]? with
 |none=>rw[ho]at h;exact h
 |some o=>
  rw[ho]at h;simp only at h⊢;split
  ·rename_i hw
   rw[if_pos hw]at h;unfold Oper.wpIn;refine⟨fun _ _=>trivial,?_⟩;rw[Oper.semAt_plain _ _ _ (al9 hd ho)];exact apI ro n _ (h.resolve_right fun hx=>hQ hx.2)
  ·rename_i hw
   rw[if_neg hw]at h;exact⟨fun _ _=>trivial,h⟩
theorem af6{md:Region.Mode}(ro:Option Nat)(n:Nat)(hQ:¬LetsOut Q)(hd:Kj ops=true):∀(fuel:Nat) (dN:Array Bool) (a:Act) (w:World),wpAny P md ops Q fuel dN a w->wpAnyIn (FR ro) n P md ops Q fuel dN a w
 |0,dN,a,w,h=>h
 |fuel+1,dN,a,w,h=>⟨h.1,fun i hi=>aqe ro n hQ hd (fun a w=>af6 ro n hQ hd fuel _ a w) (h.2 i hi)⟩
theorem aqa{ro:Option Nat}(L:Nat)(hm:P.follows .mixedOrders=true)(hQ:¬LetsOut Q)(hd:Kj ops=true)(hL:ops[L]? =some oL)(aW:ops.size=L+1)(hg:oL.guard=none)(vU:Jb ops=true)(Ia:KE ops L=true)
 (h:wpAnyH P .any ops (eo P oL Q) S L ((Array.replicate (L+1) false).setIfInBounds L true) a w.drew):(Code.region id ops true).wpIn (FR ro) n P Q a w:=by
 refine wpIn_region_any hm (af6 ro n hQ hd _ _ _ _ ?_);rw[aW];refine af5 hL aW hg vU Ia L _ a _ (by simp) (by simp[Array.getD]) (fun i o ho hl=>?_) (Ci _ _ _ _ h);simp[Array.getD]at hl
theorem ap_{l:Nat}(L:Nat)(hm:P.follows .mixedOrders=true)(hQ:¬LetsOut Q)(hd:Kj ops=true)(hL:ops[L]? =some oL)(aW:ops.size=L+1)(hg:oL.guard=none)(vU:Jb ops=true)(Ia:KE ops L=true)
 (h:wpAnyH P .any ops (eo P oL Q) S L ((Array.replicate (L+1) false).setIfInBounds L true) a w.drew):(Code.region id ops true).wpIn (Fence.wide.inRound l) n P Q a w:=
 aqa (ro:=some l) L hm hQ hd hL aW hg vU Ia h
def RR(Q:Exit->Act->World->Prop):Exit->Act->World->Prop
 |.normal,a,w=>Q .normal a w
 |_,_,_=>False
theorem j_(h:c.wp P (RR Q) a w):c.wp P Q a w:=wp_mono h fun e a w h=>by cases e<;>first|exact h|exact h.elim
theorem ap9{F:Fence}(h:c.wpIn F n P (RR Q) a w):c.wpIn F n P Q a w:=wpIn_mono h fun e a w h=>by cases e<;>first|exact h|exact h.elim
theorem jE(h:Q .normal a w):RR Q .normal a w:=h
theorem akV(Q:Exit->Act->World->Prop):¬LetsOut (RR Q):=fun⟨_,_,h⟩=>h
end Go.Proofs.YtpdnofhackjfdaaGreatDoor
namespace Go.Proofs.YtpdnofhackjfdaaGreatDoor
open Go.Proofs.Tryz
open Go.RowKit Go.Maps
attribute [local go_sem] E8
variable {a:Act} {K:Act->World->Prop} {ops:Array Oper} {s:ByteArray} {c:Code} {Q:Exit->Act->World->Prop} {aH wf:List Nat} {xs:List Value} {N b aq i id ip k n:Nat} {o oL:Oper} {P:Program} {v v':Value} {W w w' w7 wr:World} {S:World->Prop}
structure OG where
 ob:Nat
 lo:Nat
 hi:Nat
 mb:Nat
 c:Nat
 vs:List Sv
 ms:List MS
 x:CX
 st:Int
 G:Int
 cR:Nat
 cb:Nat
 aH:List Nat
 fh:Nat
 cf:Nat
 FB:Nat
 rh:Nat
 cr:Nat
 WB:Nat
 nr:Nat
 L:Nat
def OG.bv(g:OG):Value:=.slice (some (GB g.cR 0)) g.aH.length g.cb
def OG.fv(g:OG):Value:=.slice (some (GB g.fh 0)) g.aH.length g.cf
def OG.rv(g:OG):Value:=.slice (some (GB g.rh 0)) g.nr g.cr
structure OG.Ok(g:OG):Prop where
 fJ:fg g.ms
 q:iJ g.G g.ms
 bN:g.ms.length<=4001
 size:g.x.s.size<=10000000
 aE:0<=g.x.aE/\g.x.aE<=1000000000000
 I6:g.L=g.ms.length/64+1
 bg:OY g.x.s g.aH
 adQ:g.nr=min g.x.s.size 4100+1
 Qh:OS g.ob g.lo g.hi g.mb g.FB
 L6:OS g.ob g.lo g.hi g.mb g.WB
 Jg:g.ob≠g.mb/\¬(g.lo<=g.ob/\g.ob<g.hi)/\g.ob≠0/\g.ob≠1
 ne:g.WB≠g.FB/\(g.WB≠g.cR/\g.WB≠g.fh/\g.WB≠g.rh)/\(g.FB≠g.cR/\g.FB≠g.fh/\g.FB≠g.rh)/\(g.ob≠g.cR/\g.ob≠g.fh/\g.ob≠g.rh)
structure iB(w:World)(g:OG)(aq:Nat)(wf wr:List Nat):Prop where
 rk:AO w g.ob g.lo g.hi g.mb g.c g.vs g.ms g.x g.st g.G g.bv g.fv (aq:Int) g.rv
 bg:∀k,k<g.aH.length->w.cell? (GB g.cR k)=some (GW (bd g.x.s (g.aH.getD k 0):Int))
 fh:∀k,k<g.aH.length->w.cell? (GB g.fh k)=some (sG g.FB g.L k)
 rh:∀k,k<g.nr->w.cell? (GB g.rh k)=some (sG g.WB g.L k)
 lt:g.cR<w.heap.size/\g.fh<w.heap.size/\g.rh<w.heap.size
 bf:au w g.FB (dr wf).toArray 207
 bw:au w g.WB (dr wr).toArray 207
 fl:wf.length=g.aH.length*g.L/\gu wf
 wl:wr.length=g.nr*g.L/\gu wr
theorem iB.kept{g:OG}{wr:List Nat}(h:iB w g aq wf wr)(k:aa ai w w'):iB w' g aq wf wr where
 rk:=h.rk.kept k (fun h=>h) (fun h=>h) (fun _ _ _ h=>h) (fun h=>h) (fun h=>h)
 bg i hi:=(k.cell (p:=(GB g.cR i)) h.lt.1 (fun h=>h)).trans (h.bg i hi)
 fh i hi:=(k.cell (p:=(GB g.fh i)) h.lt.2.1 (fun h=>h)).trans (h.fh i hi)
 rh i hi:=(k.cell (p:=(GB g.rh i)) h.lt.2.2 (fun h=>h)).trans (h.rh i hi)
 lt:=by have:=k.size;have:=h.lt;omega
 bf:=h.bf.kept k (fun h=>h)
 bw:=h.bw.kept k (fun h=>h)
 fl:=h.fl
 wl:=h.wl
theorem iB.Yk{g:OG}{wr yo:List Nat}(h:iB w g aq wf wr)(hg:g.Ok)(k:aa (fun i=>i=g.WB) w w')(hb:au w' g.WB (dr yo).toArray 207)(hl:yo.length=g.nr*g.L/\gu yo):iB w' g aq wf yo where
 rk:=h.rk.row k hg.L6
 bg i hi:=(k.cell (p:=(GB g.cR i)) h.lt.1 (fun e=>hg.ne.2.1.1 e.symm)).trans (h.bg i hi)
 fh i hi:=(k.cell (p:=(GB g.fh i)) h.lt.2.1 (fun e=>hg.ne.2.1.2.1 e.symm)).trans (h.fh i hi)
 rh i hi:=(k.cell (p:=(GB g.rh i)) h.lt.2.2 (fun e=>hg.ne.2.1.2.2 e.symm)).trans (h.rh i hi)
 lt:=by have:=k.size;have:=h.lt;omega
 bf:=h.bf.kept k (fun e=>hg.ne.1 e.symm)
 bw:=hb
 fl:=h.fl
 wl:=hl
theorem iB.aeZ{g:OG}{Ti wr:List Nat}(h:iB w g aq wf wr)(hg:g.Ok)(k:aa (fun i=>i=g.FB) w w')(hb:au w' g.FB (dr Ti).toArray 207)(hl:Ti.length=g.aH.length*g.L/\gu Ti):iB w' g aq Ti wr where
 rk:=h.rk.row k hg.Qh
 bg i hi:=(k.cell (p:=(GB g.cR i)) h.lt.1 (fun e=>hg.ne.2.2.1.1 e.symm)).trans (h.bg i hi)
 fh i hi:=(k.cell (p:=(GB g.fh i)) h.lt.2.1 (fun e=>hg.ne.2.2.1.2.1 e.symm)).trans (h.fh i hi)
 rh i hi:=(k.cell (p:=(GB g.rh i)) h.lt.2.2 (fun e=>hg.ne.2.2.1.2.2 e.symm)).trans (h.rh i hi)
 lt:=by have:=k.size;have:=h.lt;omega
 bf:=hb
 bw:=h.bw.kept k (fun e=>hg.ne.1 e)
 fl:=hl
 wl:=h.wl
theorem iB.aoA{g:OG}{wr:List Nat}(h:iB w g aq wf wr)(hg:g.Ok)(b:Nat):iB (w.setCell (GB g.ob 10) (GW (b:Int))) g b wf wr:=by
 have k:aa (fun i=>i=g.ob) w (w.setCell (GB g.ob 10) (GW (b:Int))):=(aa.refl (fun i=>i=g.ob) w).setCell (p:=(GB g.ob 10)) (Or.inl rfl) _;have hO:=h.rk.o.setCell 10 (GW (b:Int));refine{rk:=⟨?_,h.rk.iz.kept k (fun e=>hg.Jg.1 e.symm),fun i a b=>(h.rk.wR i a b).kept k (fun j h1 h2 e=>hg.Jg.2.1 (by subst e;exact⟨h1,h2⟩)) h.rk.le,Bh h.rk.le k.size,h.rk.jS.kept k (fun e=>hg.Jg.2.2.1 e.symm) (fun e=>hg.Jg.2.2.2 e.symm)⟩,bg:=fun i hi=>?_,fh:=fun i hi=>?_,rh:=fun i hi=>?_,lt:=?_,bf:=?_,bw:=?_,fl:=h.fl,wl:=h.wl}
 ·simpa[Iw]using hO
 ·exact(k.cell (p:=(GB g.cR i)) h.lt.1 (fun e=>hg.ne.2.2.2.1 e.symm)).trans (h.bg i hi)
 ·exact(k.cell (p:=(GB g.fh i)) h.lt.2.1 (fun e=>hg.ne.2.2.2.2.1 e.symm)).trans (h.fh i hi)
 ·exact(k.cell (p:=(GB g.rh i)) h.lt.2.2 (fun e=>hg.ne.2.2.2.2.2 e.symm)).trans (h.rh i hi)
 ·have:=k.size;have:=h.lt;omega
 ·exact h.bf.kept k hg.Qh.1
 ·exact h.bw.kept k hg.L6.1
def AQ(g:OG)(ws:List Nat)(r i:Nat):Prop:=∀u:Nat,u<g.ms.length->gz ws (r*g.L) u=dV g.ms g.x u i
def OG.from(g:OG)(b:Nat):Nat:=bd g.x.s (g.aH.getD b 0)
def vy(g:OG)(wr:List Nat)(b i:Nat):Prop:=∀j,i<=j->j<=g.aH.getD (b+1) 0->AQ g wr (bd g.x.s j-g.from b) j
attribute [local go_sem] E8
def rQ(k N:Nat):List Nat:=((List.range N).drop k).reverse
theorem aba(N:Nat):rQ N N=[]:=by unfold rQ;simp
theorem abc(h:k<N):rQ k N=rQ (k+1) N++[k]:=by
 unfold rQ;rw[Bw (by simpa using h),List.reverse_cons];simp
theorem abb(k N:Nat):(rQ k N).length=N-k:=by unfold rQ;simp
theorem aib{l:List Nat}{x:Nat}(hk:k<=N)(h:l++[x]=rQ k N):k<N/\x=k/\l=rQ (k+1) N:=by
 by_cases e:k=N
 ·subst e;rw[aba]at h;simp at h
 ·have az:k<N:=by omega
  rw[abc az]at h;have h1:=List.append_inj' h rfl;refine⟨az,?_,h1.1⟩;simpa using h1.2
theorem agN(w:World)(a:Option Addr)(N c:Nat):Calls prog 115 #[.slice a N c] w fun e w'=>e=.returned (.func (.func 142) #[] #[BT w.heap.size 0])/\w'=w.alloc (.cells #[.slice a N c] 22):=by
 go_in
 go_wp2_with fail
 go_ret
 exact⟨rfl,rfl⟩
abbrev Ja(N:Nat):={d:Nat//d<N}
def Qk(p:Nat->Nat){N:Nat}(x:Ja N):Array Value:=#[GW (x.1:Int),GW (p x.1:Int)]
theorem agM(n:Nat)(hn:1<=n)(l Bs pb N c:Nat)(p:Nat->Nat)(a:Option Addr)(ha:0<N->a=some (GB pb 0))(xN:N<=10000000)(J Jx:List (Ja N)->World->Prop)
 (hY:∀pre x W,J pre W->pre.length<N->YieldAt Fence.wide (n-1) prog l (Qk p x) W fun e W'=>
   (e=.returned (.bool true)/\J (pre++[x]) W'/\jW Bs pb W W')\/(e=.returned (.bool false)/\Jx (pre++[x]) W'))
 (W:World)(c1:W.cell? (GB Bs 0)=some (.slice a N c))(c2:∀d,d<N->W.cell? (GB pb d)=some (GW (p d:Int)))(hJ:AbidesFrom W.heap.size J)(h0:J [] W):
 CallsIn Fence.wide n prog 142 #[.func (.yield l) #[] #[],BT Bs 0] W fun e W'=>(∃v,e=.returned v)/\
  ((∃ys,ys.map (·.1)=rQ 0 N/\J ys W')\/(∃pre,True/\Jx pre W')):=by
 refine callsIn_of_wp func142 rfl trivial ?_ rfl;simp only[ntmps142,Dm,Ax,Bf,Nat.reduceAdd,Nat.reduceSub,Df,Dg,Dz,Do,Dp,C4];gi_wp2
 gi_loopw [3] (fun i wr=>∃(k:Nat) (pre:List (Ja N)),k<=N/\i=GW ((k:Int)-1)/\Hid (pre.map (·.1)=rQ k N)/\Hid (J pre wr)/\Hid (jW Bs pb W wr))
  (fun i _=>(intOf i+1).toNat)
 case atStart=>exact⟨N,[],Ab _,rfl,(aba N).symm,h0,jW.refl _ _ _⟩
 case round=>
  obtain⟨k,pre,hk,rfl,HP,Ll,HB⟩:=hrel;have d1:wr.cell? (GB Bs 0)=some (.slice a N c):=HB.o.cell.1.trans c1;by_cases az:0<k
  ·obtain⟨m,rfl⟩:∃m,k=m+1:=⟨k-1,by omega⟩
   have Rs:m<N:=(by omega);obtain rfl:=ha (by omega);have d2:wr.cell? (GB pb m)=some (GW (p m:Int)):=(Cc (w:=W) (a:=(GB pb m)) HB.o.2).trans (c2 m Rs);have dc:pre.length=N-(m+1):=by have:=congrArg List.length HP.o;simpa[abb]using this
   obtain⟨fn,tmps,assign,body,hy,hR⟩:=hY pre ⟨m,Rs⟩ wr Ll.o (by omega);have HR:=ab hR;simp only[Qk]at hy;have em:((m+1:Nat):Int)-1=(m:Int):=(by omega);rw[em];clear hR em dc;gi_wp2;refine HR.o.mono ?_;rintro e W3 (⟨rfl,GH,bm⟩|⟨rfl,hJx3⟩)
   ·have T2:=ab GH;have iL:=ab bm;clear GH bm hy;gi_wp2;go_roundw
    case rel=>exact⟨m,pre++[⟨m,Rs⟩],by omega,rfl,(by show _=_;rw[Ca,HP.o,abc Rs];rfl),T2,HB.o.trans iL.o⟩
    case measure=>simp[intOf]
   ·gi_wp2
    refine Bm (Dk rfl _ _ _) rfl ?_;exact⟨⟨_,rfl⟩,.inr ⟨_,trivial,hJx3⟩⟩
  ·have wi:k=0:=(by omega);subst wi;gi_wp2;go_end0;exact⟨⟨_,rfl⟩,.inl ⟨pre,HP.o,Ll.o⟩⟩
theorem agO(n:Nat)(hn:1<=n)(Bs pb N c:Nat)(p:Nat->Nat)(a:Option Addr)(ha:0<N->a=some (GB pb 0))(xN:N<=10000000)(w:World)(ui:Bs<w.heap.size)(ee:pb<w.heap.size)
 (c1:w.cell? (GB Bs 0)=some (.slice a N c))(c2:∀d,d<N->w.cell? (GB pb d)=some (GW (p d:Int))):
 SeqStopsK Fence.wide n prog 142 #[BT Bs 0] (fun x:Ja N=>Qk p x) (jW Bs pb) (fun ys=>ys.map (·.1)=rQ 0 N) (fun pre=>True) N w:=fun l J Jx W hW hJ _ hY h0=>
 agM n hn l Bs pb N c p a ha xN J Jx hY W ((hW.cell (p:=(GB Bs 0)) ui).trans c1) (fun d hd=>(hW.cell (p:=(GB pb d)) ee).trans (c2 d hd)) hJ h0
