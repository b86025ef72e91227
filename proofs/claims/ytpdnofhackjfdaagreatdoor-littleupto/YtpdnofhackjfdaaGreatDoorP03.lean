/- Spans in memory; -/
import Derived.Test.YtpdnofhackjfdaaGreatDoorP01
set_option linter.all false
set_option maxRecDepth 100000
set_option maxHeartbeats 2000000
namespace Go.Proofs.YtpdnofhackjfdaaGreatDoor
open Go.Proofs.Tryz
open Go.RowKit Go.Shelf
attribute [local go_sem] E8
variable {d:Array (Int×Int)} {g:Nat} {w w':World}
def JX(x:Int×Int):Value:=.agg #[.int .i32 x.1,.int .i32 x.2]
def dd:List (Int×Int)->List Value
 | []=>[]
 |p::l=>.int .i32 p.1::.int .i32 p.2::dd l
theorem zV(l:List (Int×Int)):(dd l).length=l.length*2:=by
 induction l with
 |nil=>rfl
 |cons p l ih=>simp[dd,ih];omega
theorem LH(l m:List (Int×Int)):dd (l++m)=dd l++dd m:=by
 induction l with
 |nil=>rfl
 |cons p l ih=>simp[dd,ih]
theorem LI:∀(l:List (Int×Int)) (i:Nat) (h:i<l.length),(dd l)[i*2]? =some (.int .i32 (l[i]).1)/\(dd l)[i*2+1]? =some (.int .i32 (l[i]).2)
 | [],i,h=>by simp at h
 |p::l,0,_=>by simp[dd]
 |p::l,i+1,h=>by
  have:=LI l i (by simpa using h);simp only[dd,Ah];rw[show(i+1)*2=i*2+1+1 by omega,show i*2+1+1+1=(i*2+1)+1+1 by omega];simpa using this
theorem aaN(l:List (Int×Int)):∀u∈dd l,u.oneCell'=true:=by
 induction l with
 |nil=>intro u h;simp[dd]at h
 |cons p l ih=>
  intro u h;simp only[dd,Cg]at h;rcases h with rfl|rfl|h
  ·rfl
  ·rfl
  ·exact ih u h
theorem uy(w:World)(cs:Array Value)(t:TypeId)(j:Nat)(u:Value)(h:cs.toList[j]? =some u):(w.alloc (.cells cs t)).cell? (Addr.add ⟨w.heap.size,0,none⟩ j)=some u:=by
 have e:Addr.add ⟨w.heap.size,0,none⟩ j=⟨w.heap.size,j,none⟩:=by
  unfold Addr.add;split
  ·rename_i hz;simp
  ·simp
 rw[e,(aq.new w cs t).cell j];simpa using h
theorem Tryz.Js:(prog.info? 219).map (fun i=>(i.zero,i.size,i.bytes))=some (some (.agg #[.int .i32 0,.int .i32 0]),2,8):=by kernel_rfl
def fV(w:World)(b:Nat)(l:List (Int×Int)):Prop:=∀i,(h:i<l.length)->w.cell? ⟨b,i*2,none⟩=some (.int .i32 (l[i]).1)/\w.cell? ⟨b,i*2+1,none⟩=some (.int .i32 (l[i]).2)
theorem fV.kept{b:Nat}{l:List (Int×Int)}{S:Nat->Prop}(h:fV w b l)(k:aa S w w')(hb:b<w.heap.size)(hs:¬S b):fV w' b l:=fun i hi=>
 ⟨(k.cell (p:=⟨b,i*2,none⟩) hb hs).trans (h i hi).1,(k.cell (p:=⟨b,i*2+1,none⟩) hb hs).trans (h i hi).2⟩
theorem Below.kept{B:Nat}(h:Below B w w')(hB:B=w.heap.size):aa af w w':=⟨h.os,h.tape,h.output,h.size,fun k hk _=>h.block k (by omega)⟩
theorem Tu{β:Type}(B:Nat)(cs:Array Value)(t:TypeId):Own (fun(_:β) W=>aq W B cs t):=by
 intro s X Y row h hg hr;refine(hg.block B h.lt (fun e=>?_)).trans h;obtain⟨o,ho,hc⟩:=hr B e.symm;rw[show X.heap[B]? =_ from h]at ho;cases ho;cases hc
theorem apb(F:Fence)(n:Nat)(h7:F.fn 173)(GH:F.round=none)(hn:1<=n)(l Bs n₀ b cap:Nat)(zs:List (Int×Int))(xk:zs.length<=100000)(hb:b<n₀)(J Jx:List (Int×Int)->World->Prop)
 (hY:∀pre x W,J pre W->pre.length<zs.length->YieldAt F (n-1) prog l #[JX x] W fun e W'=>
   (e=.returned (.bool true)/\J (pre++[x]) W'/\Below n₀ W W')\/(e=.returned (.bool false)/\Jx (pre++[x]) W'))
 (W:World)(hn₀:n₀<=W.heap.size)(tR:W.cell? ⟨Bs,0,none⟩=some (.slice (some ⟨b,0,none⟩) zs.length cap))(hc:fV W b zs)(hJ:AbidesFrom W.heap.size J)(h0:J [] W):
 CallsIn F n prog 173 #[.func (.yield l) #[] #[],.pointer (some ⟨Bs,0,none⟩)] W fun e W'=>(∃v,e=.returned v)/\
  ((∃ys,ys=zs/\J ys W')\/(∃pre,pre<+:zs/\Jx pre W')):=by
 refine callsIn_of_wp func173 rfl h7 ?_ GH;simp only[ntmps173,Dl,Av,A8,Nat.reduceAdd,Nat.reduceSub,De,Df,D2,Dm,C7,C0];gi_wp2
 gi_loopw [7] (fun i wr=>∃k:Nat,k<=zs.length/\i=.int .i64 k/\J (zs.take k) wr/\Below n₀ W wr)
  (fun i _=>zs.length-(intOf i).toNat)
 case atStart=>exact⟨0,Ao _,rfl,by simpa using h0,Fv _ _⟩
 case round=>
  obtain⟨k,hk,rfl,hJs,pk⟩:=hrel;by_cases aw:k<zs.length
  ·have q0:wr.cell? ⟨b,k*2,none⟩=some (.int .i32 (zs[k]).1):=(pk.cell (p:=⟨b,k*2,none⟩) hb).trans (hc k aw).1;have q1:wr.cell? ⟨b,k*2+1,none⟩=some (.int .i32 (zs[k]).2):=(pk.cell (p:=⟨b,k*2+1,none⟩) hb).trans (hc k aw).2;have aP:=pk.size;have Pv:J (zs.take k) (wr.alloc (.cells #[.int .i32 (zs[k]).1,.int .i32 (zs[k]).2] 219)):=hJ _ wr _ none hJs (World.grownBy_alloc wr _ none) (fun r e=>by cases e);obtain⟨fn,tmps,assign,body,hy,hR⟩:=hY _ (zs[k]) _ Pv (by simp;omega);have BK:zs.take k++[zs[k]]=zs.take (k+1):=by rw[Ff,Ae aw];rfl
   rw[BK]at hR;simp only[JX]at hy;have c0:=(aq.new wr #[.int .i32 (zs[k]).1,.int .i32 (zs[k]).2] 219).cell 0;have c1:=(aq.new wr #[.int .i32 (zs[k]).1,.int .i32 (zs[k]).2] 219).cell 1;gi_wp2;refine hR.mono ?_;rintro e W3 (⟨rfl,FA,bA⟩|⟨rfl,hJx3⟩)
   ·gi_wp2
    go_roundw
    case rel=>exact⟨k+1,by omega,by simp,FA,(pk.alloc (by omega) _).trans bA⟩
    case measure=>simp[intOf];omega
   ·gi_wp2
    refine Bi (Dj rfl _ _ _) rfl ?_;exact⟨⟨_,rfl⟩,.inr ⟨_,List.take_prefix _ _,hJx3⟩⟩
  ·obtain rfl:k=zs.length:=by omega
   gi_wp2
   go_end0
   exact⟨⟨_,rfl⟩,.inl ⟨_,rfl,by simpa using hJs⟩⟩
theorem apd(F:Fence)(n:Nat)(h7:F.fn 173)(GH:F.round=none)(hn:1<=n)(Bs n₀ b cap:Nat)(zs:List (Int×Int))(xk:zs.length<=100000)(w:World)(tR:Bs<w.heap.size)(hn₀:n₀<=w.heap.size)(hb:b<n₀)
 (hc:w.cell? ⟨Bs,0,none⟩=some (.slice (some ⟨b,0,none⟩) zs.length cap))(hI:fV w b zs):
 SeqStopsK F n prog 173 #[.pointer (some ⟨Bs,0,none⟩)] (fun x:Int×Int=>#[JX x]) (Below n₀) (fun ys=>ys=zs) (fun pre=>pre<+:zs) zs.length w:=fun l J Jx W hW hJ _ hY h0=>
 apb F n h7 GH hn l Bs n₀ b cap zs xk hb J Jx hY W (Bb hn₀ hW.size) ((hW.cell (p:=⟨Bs,0,none⟩) tR).trans hc)
  (fun i hi=>⟨(hW.cell (p:=⟨b,i*2,none⟩) (by show b<_;omega)).trans (hI i hi).1,(hW.cell (p:=⟨b,i*2+1,none⟩) (by show b<_;omega)).trans (hI i hi).2⟩) hJ h0
theorem afM(F:Fence)(n:Nat)(h3:F.fn 188)(h5:F.fn 173)(GH:F.round=none)(hn:3<=n)(Bs b cap:Nat)(zs:List (Int×Int))(cT:zs.length<=100000)(w:World)(tR:Bs<w.heap.size)(hb:b<w.heap.size)
 (h_:w.cell? ⟨Bs,0,none⟩=some (.slice (some ⟨b,0,none⟩) zs.length cap))(hI:fV w b zs):
 CallsIn F n prog 188 #[.slice none 0 0,.func (.func 173) #[] #[.pointer (some ⟨Bs,0,none⟩)]] w fun e W'=>∃v,e=.returned v/\W'.ownsRow w.heap.size 219 2 v zs.length (dd zs)/\Below w.heap.size w W':=by
 have h1:1<=n:=by omega
 obtain⟨i0,hi,dm,dp,c_⟩:=Bp Tryz.Js;refine callsIn_of_wp_marks func188 rfl h3 ?_ GH;simp only[ntmps188,Dl,Av,A8,Nat.reduceAdd,Nat.reduceSub,De,Df,D2,Dm,C7,C0];gi_wp2;have bO:=Boxed.new w 60 (.slice none 0 0);have wR:Below w.heap.size w (w.alloc (.cells #[.slice none 0 0] 60)):=(Fv _ w).alloc (Ab _) _;have aiQ:(w.alloc (.cells #[.slice none 0 0] 60)).cell? ⟨Bs,0,none⟩=some (.slice (some ⟨b,0,none⟩) zs.length cap):=(wR.cell (p:=⟨Bs,0,none⟩) tR).trans h_;have hI':fV (w.alloc (.cells #[.slice none 0 0] 60)) b zs:=hI.kept ((aa.refl af w).alloc _) hb (fun hx=>hx)
 refine wpIn_rangeFunc_ownH GH h1 (gf:=173) (lb:=#[.pointer (some ⟨Bs,0,none⟩)]) rfl h5 (enters_of func173 (by kernel_rfl) rfl)
  (apd F (n-1) h5 GH (by omega) Bs w.heap.size b cap zs cT _ (by simp;omega) (by simp) hb aiQ hI') belowK_t (belowK_b (by simp)) (Fv _ _) (fun _=>rfl)
  (fun pre W=>(∃v,Boxed W w.heap.size 60 v/\W.ownsRow w.heap.size 219 2 v pre.length (dd pre)/\True)/\Below w.heap.size w W)
  (fun _ _ _=>False)
  (OwnFrom.and (Own.from (holdsRow_own w.heap.size w.heap.size 60 219 2 (fun pre=>pre.length) (fun pre=>dd pre) (fun pre v=>True)) _) (ownFrom_below (Ab _) (by simp)))
  (fun _ _ _ _ _ hs _ _=>hs)
  ⟨⟨_,bO,A6 _ _ _ _,trivial⟩,wR⟩
  (fun x a' W=>∃Bx,w.heap.size<Bx/\aq W Bx #[.int .i32 x.1,.int .i32 x.2] 219/\a'={tmps:=#[.slice none 0 0,.func (.func 173) #[] #[.pointer (some ⟨Bs,0,none⟩)],.pointer (some ⟨w.heap.size,0,none⟩),undef,.slice none 0 0,.pointer (some ⟨Bx,0,none⟩),.func (.func 173) #[] #[.pointer (some ⟨Bs,0,none⟩)],JX x,undef,undef,undef,undef,undef],defers:=[]})
  (fun x a' _ X Y row hs hg hr=>by obtain⟨Bx,h1,h2,h3⟩:=hs;exact⟨Bx,h1,Tu Bx #[.int .i32 x.1,.int .i32 x.2] 219 () X Y row h2 hg (fun r e=>(hr r e).2),h3⟩)
  ?assign ?body ?done ?stop
 case assign=>
  rintro l pre x W K ⟨⟨v,hv,dO,_⟩,hB⟩ hK;simp only[JX]at hK⊢;gi_wp2;exact hK _ _ ((KeepsOthers.alloc _ _).from _) ((Fv _ W).alloc hB.size _) ⟨⟨v,hv.alloc _,dO.alloc _,trivial⟩,hB.alloc hB.size _⟩ ⟨W.heap.size,hv.lt,aq.new W _ _,rfl⟩
 case body=>
  rintro l pre x a' W hl ⟨r,hr⟩ ⟨⟨v,hv,dO,_⟩,hB⟩ ⟨Bx,hBx,bX,rfl⟩ aw;have hc:=hv.cell;have x0:W.cell? ⟨Bx,0,none⟩=some (.int .i32 x.1):=bX.cell 0;have x1:W.cell? ⟨Bx,1,none⟩=some (.int .i32 x.2):=bX.cell 1;simp only[JX];gi_wp2_with (gi_at_builtin;refine wpListIn_append_own _ rfl _ _ 60 rfl w.heap.size 219 i0 (.agg #[.int .i32 0,.int .i32 0]) 2 8 underlying60 hi dm dp c_ rfl (by decide) _ _ _ rfl (dO.alloc _) ⟨W.heap.size,0,none⟩ 1 1 [.int .i32 x.1,.int .i32 x.2] rfl rfl (fun j u h=>uy _ _ _ j u h) (by simp[Value.oneCell']) (by unfold maxLen;omega) (by omega) (by have:=hB.size;simp;omega) ?_;intro v' w1 bH b_ _;obtain⟨g',Lo,rfl⟩:=ownsRow_succ bH;obtain⟨mx,nP,sW,aN,mS⟩:=hv.appended (by decide) dO hB.size (Ab _) bH b_;have nI:=mx.cell;have hf1:=mx.frozen);exact⟨aN.from _,mS,⟨⟨_,nP,by rw[LH];simpa[dd]using sW,trivial⟩,hB.trans mS⟩⟩
 case done=>
  rintro D ys W hD rfl ⟨⟨v,hv,dO,dS⟩,hB⟩ hK;have hc:=hv.cell;gi_wp2;refine⟨by simp,.inl ⟨_,_,rfl,run_takeDeferred hK,?_⟩⟩;exact⟨_,results_tmp rfl _ _ _,v,rfl,ownsRow_putObj dO _ hK rfl,hB.trans (belowK_b (w:=w) (Ab _) W D _ _ (by simp at hD;omega) hK rfl rfl)⟩
 case stop=>
  rintro D c pre W _ _ h _;exact h.elim
end Go.Proofs.YtpdnofhackjfdaaGreatDoor
namespace Go.Proofs.YtpdnofhackjfdaaGreatDoor
open Go.Proofs.Tryz
open Go.RowKit Go.Shelf Go.Lib Go.Sort
variable {d:Array (Int×Int)} {g:Nat} {w w':World}
def Tryz.RE:Go.Shelf.Ren:=⟨fun|6=>172|15=>124|14=>189|28=>158|29=>159|20=>193|21=>194|22=>195|23=>196|24=>197|25=>198|26=>199|27=>200|46=>204|47=>176|48=>177|49=>205|50=>206|57=>207|n=>n,fun|22=>60|24=>219|25=>245|3=>3|39=>197|0=>0|53=>234|55=>207|4=>4|46=>248|45=>247|50=>95|5=>5|9=>9|66=>265|70=>269|76=>278|77=>227|n=>n,fun|n=>n⟩
theorem Tryz.RD:Go.Proofs.SlLaysF0.n6 prog Tryz.RE:={
 mixed:=by kernel_rfl
 f6:=⟨Tryz.f172.name,by decide,func172.trans (congrArg some (by kernel_rfl))⟩
 f14:=⟨Tryz.f189.name,by decide,func189.trans (congrArg some (by kernel_rfl))⟩
 f15:=func124.trans (congrArg some (by kernel_rfl))
 f20:=⟨Tryz.f193.name,by decide,func193.trans (congrArg some (by kernel_rfl))⟩
 f21:=⟨Tryz.f194.name,by decide,func194.trans (congrArg some (by kernel_rfl))⟩
 f22:=⟨Tryz.f195.name,by decide,func195.trans (congrArg some (by kernel_rfl))⟩
 f23:=⟨Tryz.f196.name,by decide,func196.trans (congrArg some (by kernel_rfl))⟩
 f24:=⟨Tryz.f197.name,by decide,func197.trans (congrArg some (by kernel_rfl))⟩
 f25:=⟨Tryz.f198.name,by decide,func198.trans (congrArg some (by kernel_rfl))⟩
 f26:=⟨Tryz.f199.name,by decide,func199.trans (congrArg some (by kernel_rfl))⟩
 f27:=⟨Tryz.f200.name,by decide,func200.trans (congrArg some (by kernel_rfl))⟩
 f28:=func158.trans (congrArg some (by kernel_rfl))
 f29:=func159.trans (congrArg some (by kernel_rfl))
 f46:=⟨Tryz.f204.name,by decide,func204.trans (congrArg some (by kernel_rfl))⟩
 f47:=func176.trans (congrArg some (by kernel_rfl))
 f48:=func177.trans (congrArg some (by kernel_rfl))
 f49:=⟨Tryz.f205.name,by decide,func205.trans (congrArg some (by kernel_rfl))⟩
 f50:=⟨Tryz.f206.name,by decide,func206.trans (congrArg some (by kernel_rfl))⟩
 f57:=⟨Tryz.f207.name,by decide,func207.trans (congrArg some (by kernel_rfl))⟩
 t0:=underlying0
 a0:=isAgg0
 z0:=sizeOf0
 v0:=zeroValue0
 t3:=underlying3
 a3:=isAgg3
 z3:=sizeOf3
 v3:=zeroValue3
 t4:=underlying4
 a4:=isAgg4
 z4:=sizeOf4
 v4:=zeroValue4
 t5:=underlying5
 a5:=isAgg5
 z5:=sizeOf5
 v5:=zeroValue5
 t9:=underlying9
 a9:=isAgg9
 z9:=sizeOf9
 v9:=zeroValue9
 t22:=underlying60
 a22:=isAgg60
 z22:=sizeOf60
 v22:=zeroValue60
 t25:=underlying245
 a25:=isAgg245
 z25:=sizeOf245
 v25:=zeroValue245
 t39:=underlying197
 a39:=isAgg197
 z39:=sizeOf197
 v39:=zeroValue197
 t45:=underlying247
 a45:=isAgg247
 z45:=sizeOf247
 v45:=zeroValue247
 t46:=underlying248
 a46:=isAgg248
 z46:=sizeOf248
 v46:=zeroValue248
 t50:=underlying95
 a50:=isAgg95
 z50:=sizeOf95
 v50:=zeroValue95
 t53:=underlying234
 a53:=isAgg234
 z53:=sizeOf234
 v53:=zeroValue234
 t55:=underlying207
 a55:=isAgg207
 z55:=sizeOf207
 v55:=zeroValue207
 t66:=underlying265
 a66:=isAgg265
 z66:=sizeOf265
 v66:=zeroValue265
 t70:=underlying269
 a70:=isAgg269
 z70:=sizeOf269
 v70:=zeroValue269
 t76:=underlying278
 a76:=isAgg278
 z76:=sizeOf278
 v76:=zeroValue278
 t77:=underlying227
 a77:=isAgg227
 z77:=sizeOf227
 v77:=zeroValue227}
def sG(x:Int×Int):List Value:=[.int .i32 x.1,.int .i32 x.2]
theorem ach(x:Int)(W:World):Calls prog 174 #[.int .i32 x] W fun e w'=>e=.returned (.bool false)/\w'=W:=by
 have hb:(x !=x)=false:=by simp
 go_in
 go_wp2
 go_ret
 exact⟨by simp,rfl⟩
theorem ag5(x y:Int)(W:World):Calls prog 148 #[.int .i32 x,.int .i32 y] W fun e w'=>e=.returned (.int .i64 (Lib.compareInt x y))/\w'=W:=by
 go_in
 go_wp2_with (go_at_call 174;refine(ach _ _).mono ?_;rintro e w' ⟨rfl,rfl⟩)
 all_goals go_ret
 all_goals refine⟨?_,rfl⟩
 all_goals simp[Lib.compareInt]
 all_goals omega
theorem agZ(x y:Int×Int)(W:World):Calls prog 147 #[.agg #[.int .i32 x.1,.int .i32 x.2],.agg #[.int .i32 y.1,.int .i32 y.2]] W fun e w'=>e=.returned (.int .i64 (Lib.compareInt x.1 y.1))/\∃q os',w'=grow (W.drewN q) os':=by
 have AM:=fun W'=>ag5 x.1 y.1 W'
 generalize Lib.compareInt x.1 y.1=r at AM⊢
 go_in
 go_wp2_with (go_at_call 148;refine(AM _).mono ?_;rintro e w' ⟨rfl,rfl⟩)
 go_ret
 exact⟨rfl,0,_,by rw[alloc_eq_grow,alloc_eq_grow,grow_grow];rfl⟩
theorem ag0(aj off size:Nat)(w:World):CmpLays prog 147 #[] sG 2 (fun x y=>Lib.compareInt x.1 y.1) aj off size w:=
 fun _ _ _ _ x y=>agZ x y _
theorem QR(x y:Int×Int):ltOf (fun x y:Int×Int=>Lib.compareInt x.1 y.1) x y=decide (x.1<y.1):=by
 unfold ltOf Lib.compareInt;by_cases h1:x.1<y.1
 ·simp[h1]
 ·by_cases h2:y.1<x.1<;>simp[h1,h2]
theorem aoF:SWO (ltOf fun x y:Int×Int=>Lib.compareInt x.1 y.1) where
 irrefl x:=by rw[QR];simp
 trans x y z h1 h2:=by rw[QR]at*;simp at*;omega
 ntrans x y z h1 h2:=by rw[QR]at*;simp at*;omega
theorem TW(d:Array (Int×Int))(j:Nat)(h:j<d.size*2):(dd d.toList)[j]? =some (flatK sG 2 d)[j]! :=by
 rw[get_flatK _ _ _ _ h];have hj:j/2<d.toList.length:=by simp;omega
 have hg:=LI d.toList (j/2) hj;have e1:d[j/2]! =d.toList[j/2]:=by simp at hj;simp[hj]
 rw[e1];rcases Eo j with h0|h0
 ·rw[h0,show(dd d.toList)[j]? =(dd d.toList)[j/2*2]? by congr 1;omega,hg.1];simp[sG]
 ·rw[h0,show(dd d.toList)[j]? =(dd d.toList)[j/2*2+1]? by congr 1;omega,hg.2];simp[sG]
theorem ajy{base cap:Nat}(h:w.ownsRow base 219 2 (.slice (some ⟨g,0,none⟩) d.size cap) d.size (dd d.toList)):HoldsK sG 2 w g 0 d/\g<w.heap.size/\base<=g:=by
 rcases h.2 with⟨he,_⟩|⟨g',Lo,aM,he,a1,a2,a3,a4,a5,a6⟩
 ·cases he
 ·cases he;refine⟨fun j hj=>?_,(Am.1 a2).1,a1⟩
  rw[size_flatK]at hj;have hf:=TW d j hj;rw[<-a6,Aw hj]at hf;constructor
  ·simp only[World.cell?,a2,Bf];simpa using hf
  ·simp[World.frozen?,a2]
theorem agK(h:HoldsK sG 2 w g 0 d):fV w g d.toList:=by
 intro i hi;have hi':i<d.size:=by simpa using hi
 have e:=LI d.toList i hi;have c0:=h (i*2) (by rw[size_flatK];omega);have c1:=h (i*2+1) (by rw[size_flatK];omega);have f0:=TW d (i*2) (by omega);have f1:=TW d (i*2+1) (by omega);rw[e.1]at f0;rw[e.2]at f1;have f0':=C6 f0;have f1':=C6 f1;have O9:=c0.1;have c1':=c1.1;rw[Bf]at O9 c1';exact⟨O9.trans (by rw[f0'];rfl),c1'.trans (by rw[f1'];rfl)⟩
theorem aoe(w:World)(aj off m:Nat)(dk:Array (Int×Int))(os:Array Obj):aa (fun i=>i=aj) w (sortWorldK sG 2 w aj off m dk os):=by
 refine⟨rfl,rfl,rfl,size_sortWorldK_c sG 2 w aj off m dk os,fun k hk hs=>?_⟩;show((putRowK sG 2 (Sort.ahead w m) aj off dk).heap++os)[k]? =w.heap[k]?
 have aP:(putRowK sG 2 (Sort.ahead w m) aj off dk).heap.size=w.heap.size:=by rw[size_putRowK];rfl
 rw[Array.getElem?_append_left (by omega)];show(w.heap.modify aj _)[k]? =_
 rw[Ek,if_neg (fun e=>hs e.symm)]
theorem amS{d':Array (Int×Int)}(h:PermIn 0 d.size d d'):d'.toList.Perm d.toList:=by
 have h1:=h.2.2;have h0:=h.1;rw[show d'.extract 0 d.size=d' by rw[<-h0];simp,show d.extract 0 d.size=d by simp]at h1;exact h1
theorem amE{n:Nat}(hn:n=d.size)(h:SortedIn (ltOf fun x y:Int×Int=>Lib.compareInt x.1 y.1) 0 n d):d.toList.Pairwise (fun a b=>a.1<=b.1):=by
 rw[Cd];intro i j hi hj cy;have hi':i<d.size:=by simpa using hi
 have Mi:j<d.size:=by simpa using hj
 have:=h i j (Ao _) cy (by omega);rw[QR]at this;simp[hi',Mi]at this;simpa using this
theorem ag1(Bs b cap:Nat)(zs:List (Int×Int))(cT:zs.length<=100000)(w:World)(tR:Bs<w.heap.size)(hb:b<w.heap.size)
 (h_:w.cell? ⟨Bs,0,none⟩=some (.slice (some ⟨b,0,none⟩) zs.length cap))(hI:fV w b zs):
 Calls prog 171 #[.func (.func 173) #[] #[.pointer (some ⟨Bs,0,none⟩)]] w fun e W'=>∃v,e=.returned v/\W'.ownsRow w.heap.size 219 2 v zs.length (dd zs)/\aa af w W':=by
 have AM:Calls prog 188 #[.slice none 0 0,.func (.func 173) #[] #[.pointer (some ⟨Bs,0,none⟩)]] w fun e W'=>∃v,e=.returned v/\W'.ownsRow w.heap.size 219 2 v zs.length (dd zs)/\Below w.heap.size w W':=
  Ga.1 (afM Fence.wide 6 trivial trivial rfl (by omega) Bs b cap zs cT w tR hb h_ hI)
 go_in
 go_wp2_with fail
 refine AM.mono ?_;rintro e w1 ⟨v,rfl,hv,hB⟩;go_wp2_with fail;go_ret;exact⟨v,rfl,hv,Below.kept hB rfl⟩
theorem aog(Bs b cap:Nat)(zs:List (Int×Int))(cT:zs.length<=100000)(az:zs≠ [])(w:World)(tR:Bs<w.heap.size)(hb:b<w.heap.size)
 (h_:w.cell? ⟨Bs,0,none⟩=some (.slice (some ⟨b,0,none⟩) zs.length cap))(hI:fV w b zs):
 Calls prog 145 #[.func (.func 173) #[] #[.pointer (some ⟨Bs,0,none⟩)],.func (.func 147) #[] #[]] w fun e w'=>∃l gb rz,e=.returned (.slice (some ⟨gb,0,none⟩) l.length rz)/\l.Perm zs/\l.Pairwise (fun a b=>a.1<=b.1)/\fV w' gb l/\w.heap.size<=gb/\gb<w'.heap.size/\aa af w w':=by
 obtain⟨z0,zr,rfl⟩:∃z0 zr,zs=z0::zr:=List.exists_cons_of_ne_nil az
 go_in
 go_wp2_with fail
 refine(ag1 Bs b cap (z0::zr) cT w tR hb h_ hI).mono ?_;rintro e w1 ⟨v,rfl,hv,aU⟩;obtain⟨g,rz,rfl⟩:=ownsRow_succ hv;have ho:=ajy (d:=(z0::zr).toArray) (by simpa using hv);have eg:∀args w,(callFunc 147 args).run prog w=.ok (.enter 147 args) w:=enters_of func147 (by kernel_rfl) rfl
 have AM:=AnyQ.slices_SortFunc Tryz.RD 2 isAgg219 sizeOf219 sG (fun _=>rfl) (fun x v hv=>by simp[sG]at hv;rcases hv with rfl|rfl<;>rfl) (fun x y=>Lib.compareInt x.1 y.1) aoF 147 #[] g 0 rz (z0::zr).toArray w1 eg (ag0 g 0 _ w1) ho.1 ho.2.1 (by simp at cT⊢;omega);change Calls prog 172 _ _ _ at AM;simp only[Dl,Av]at AM;clear hv;go_wp2_with fail;refine AM.mono ?_;rintro e w2 ⟨rfl,d',n,os,hp,hs,rfl⟩;go_wp2_with fail;go_ret;have xe:=amS (d:=(z0::zr).toArray) (by simpa using hp);have aP:d'.size=zr.length+1:=by have:=xe.length_eq;simpa using this
 have kk:=aoe w1 g 0 n d' os;have hH:=holdsK_sortWorldK_c sG 2 w1 g 0 (z0::zr).toArray d' n os ho.1 ho.2.1 (by simp[aP]);refine⟨d'.toList,g,rz,by simp[aP],by simpa using xe,amE aP.symm hs,agK hH,ho.2.2,As ho.2.1 kk.size,aU.bZ kk (fun i hi he=>?_)⟩;have:=ho.2.2;omega
end Go.Proofs.YtpdnofhackjfdaaGreatDoor
namespace Go.Proofs.YtpdnofhackjfdaaGreatDoor
open Go.Proofs.Tryz
variable {d:Array (Int×Int)} {g:Nat} {w w':World}
def We(r:Int):List (Int×Int):=
 if r=100\/r=68 then [(48,57)]else if r=119\/r=87 then [(97,122),(65,90),(48,57),(95,95)]else [(9,10),(13,13),(32,32)]
structure TX where
 l:List (Nat×Int)
 len:Nat
def TX.aY(x:TX)(i:Nat):Int:=((x.l.map fun p=>(p.1:Int))[i]?).getD x.len
def TX.bl(x:TX)(i:Nat):Int:=((x.l.map (·.2))[i]?).getD (-1)
def bV(sp:List (Int×Int))(r:Int):Bool:=sp.any fun p=>decide (p.1<=r)&&decide (r<=p.2)
def yI(r:Int):Bool:=(decide (97<=r)&&decide (r<=122))||(decide (65<=r)&&decide (r<=90))
def yS(r:Int):Int:=if 97<=r then r-32 else r+32
def TX.wm(x:TX)(i:Int):Bool:=decide (0<=i)&&decide (i<x.l.length)&&bV (We 119) (x.bl i.toNat)
