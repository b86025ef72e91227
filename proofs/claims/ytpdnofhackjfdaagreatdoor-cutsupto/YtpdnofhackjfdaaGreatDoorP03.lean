/- Spans in memory; Go's slices -/
import Derived.Test.YtpdnofhackjfdaaGreatDoorP01
set_option linter.all false
set_option maxRecDepth 100000
set_option maxHeartbeats 2000000
namespace Go.Proofs.YtpdnofhackjfdaaGreatDoor
open Go.Proofs.Tryz
open Go.RowKit Go.Shelf
attribute [local go_sem] Ew
variable {d:Array (Int×Int)} {g:Nat} {w w':World}
def JF(x:Int×Int):Value:=.agg #[.int .i32 x.1,.int .i32 x.2]
def db:List (Int×Int)->List Value
 | []=>[]
 |p::l=>.int .i32 p.1::.int .i32 p.2::db l
theorem zR(l:List (Int×Int)):(db l).length=l.length*2:=by
 induction l with
 |nil=>rfl
 |cons p l ih=>simp[db,ih];omega
theorem Lo(l m:List (Int×Int)):db (l++m)=db l++db m:=by
 induction l with
 |nil=>rfl
 |cons p l ih=>simp[db,ih]
theorem Lp:∀(l:List (Int×Int)) (i:Nat) (h:i<l.length),(db l)[i*2]? =some (.int .i32 (l[i]).1)/\(db l)[i*2+1]? =some (.int .i32 (l[i]).2)
 | [],i,h=>by simp at h
 |p::l,0,_=>by simp[db]
 |p::l,i+1,h=>by
  have:=Lp l i (by simpa using h);simp only[db,Ag];rw[show(i+1)*2=i*2+1+1 by omega,show i*2+1+1+1=(i*2+1)+1+1 by omega];simpa using this
theorem aaW(l:List (Int×Int)):∀u∈db l,u.oneCell'=true:=by
 induction l with
 |nil=>intro u h;simp[db]at h
 |cons p l ih=>
  intro u h;simp only[db,Cn]at h;rcases h with rfl|rfl|h
  ·rfl
  ·rfl
  ·exact ih u h
theorem uy(w:World)(cs:Array Value)(t:TypeId)(j:Nat)(u:Value)(h:cs.toList[j]? =some u):(w.alloc (.cells cs t)).cell? (Addr.add ⟨w.heap.size,0,none⟩ j)=some u:=by
 have e:Addr.add ⟨w.heap.size,0,none⟩ j=⟨w.heap.size,j,none⟩:=by
  unfold Addr.add;split
  ·rename_i hz;simp
  ·simp
 rw[e,(aq.new w cs t).cell j];simpa using h
theorem Tryz.Jf:(prog.info? 219).map (fun i=>(i.zero,i.size,i.bytes))=some (some (.agg #[.int .i32 0,.int .i32 0]),2,8):=by kernel_rfl
def fV(w:World)(b:Nat)(l:List (Int×Int)):Prop:=∀i,(h:i<l.length)->w.cell? ⟨b,i*2,none⟩=some (.int .i32 (l[i]).1)/\w.cell? ⟨b,i*2+1,none⟩=some (.int .i32 (l[i]).2)
theorem fV.kept{b:Nat}{l:List (Int×Int)}{S:Nat->Prop}(h:fV w b l)(k:aa S w w')(hb:b<w.heap.size)(hs:¬S b):fV w' b l:=fun i hi=>
 ⟨(k.cell (p:=⟨b,i*2,none⟩) hb hs).trans (h i hi).1,(k.cell (p:=⟨b,i*2+1,none⟩) hb hs).trans (h i hi).2⟩
theorem Below.kept{B:Nat}(h:Below B w w')(hB:B=w.heap.size):aa af w w':=⟨h.os,h.tape,h.output,h.size,fun k hk _=>h.block k (by omega)⟩
theorem Tl{β:Type}(B:Nat)(cs:Array Value)(t:TypeId):Own (fun(_:β) W=>aq W B cs t):=by
 intro s X Y row h hg hr;refine(hg.block B h.lt (fun e=>?_)).trans h;obtain⟨o,ho,hc⟩:=hr B e.symm;rw[show X.heap[B]? =_ from h]at ho;cases ho;cases hc
theorem aoz(F:Fence)(n:Nat)(h7:F.fn 173)(Gk:F.round=none)(hn:1<=n)(l Bs n₀ b cap:Nat)(zs:List (Int×Int))(xe:zs.length<=100000)(hb:b<n₀)(J Jx:List (Int×Int)->World->Prop)
 (hY:∀pre x W,J pre W->pre.length<zs.length->YieldAt F (n-1) prog l #[JF x] W fun e W'=>
   (e=.returned (.bool true)/\J (pre++[x]) W'/\Below n₀ W W')\/(e=.returned (.bool false)/\Jx (pre++[x]) W'))
 (W:World)(hn₀:n₀<=W.heap.size)(tO:W.cell? ⟨Bs,0,none⟩=some (.slice (some ⟨b,0,none⟩) zs.length cap))(hc:fV W b zs)(hJ:AbidesFrom W.heap.size J)(h0:J [] W):
 CallsIn F n prog 173 #[.func (.yield l) #[] #[],.pointer (some ⟨Bs,0,none⟩)] W fun e W'=>(∃v,e=.returned v)/\
  ((∃ys,ys=zs/\J ys W')\/(∃pre,pre<+:zs/\Jx pre W')):=by
 refine callsIn_of_wp func173 rfl h7 ?_ Gk;simp only[ntmps173,Dh,Ax,Bb,Nat.reduceAdd,Nat.reduceSub,Db,Dc,Du,Dj,Dk,C1];gi_wp2
 gi_loopw [7] (fun i wr=>∃k:Nat,k<=zs.length/\i=.int .i64 k/\J (zs.take k) wr/\Below n₀ W wr)
  (fun i _=>zs.length-(intOf i).toNat)
 case atStart=>exact⟨0,Am _,rfl,by simpa using h0,Fp _ _⟩
 case round=>
  obtain⟨k,hk,rfl,hJs,o_⟩:=hrel;by_cases aw:k<zs.length
  ·have q0:wr.cell? ⟨b,k*2,none⟩=some (.int .i32 (zs[k]).1):=(o_.cell (p:=⟨b,k*2,none⟩) hb).trans (hc k aw).1;have q1:wr.cell? ⟨b,k*2+1,none⟩=some (.int .i32 (zs[k]).2):=(o_.cell (p:=⟨b,k*2+1,none⟩) hb).trans (hc k aw).2;have aS:=o_.size;have Pl:J (zs.take k) (wr.alloc (.cells #[.int .i32 (zs[k]).1,.int .i32 (zs[k]).2] 219)):=hJ _ wr _ none hJs (World.grownBy_alloc wr _ none) (fun r e=>by cases e);obtain⟨fn,tmps,assign,body,hy,hR⟩:=hY _ (zs[k]) _ Pl (by simp;omega);have AV:zs.take k++[zs[k]]=zs.take (k+1):=by rw[Dv,Ae aw];rfl
   rw[AV]at hR;simp only[JF]at hy;have c0:=(aq.new wr #[.int .i32 (zs[k]).1,.int .i32 (zs[k]).2] 219).cell 0;have c1:=(aq.new wr #[.int .i32 (zs[k]).1,.int .i32 (zs[k]).2] 219).cell 1;gi_wp2;refine hR.mono ?_;rintro e W3 (⟨rfl,EA,bA⟩|⟨rfl,hJx3⟩)
   ·gi_wp2
    go_roundw
    case rel=>exact⟨k+1,by omega,by simp,EA,(o_.alloc (by omega) _).trans bA⟩
    case measure=>simp[intOf];omega
   ·gi_wp2
    refine Bj (Df rfl _ _ _) rfl ?_;exact⟨⟨_,rfl⟩,.inr ⟨_,List.take_prefix _ _,hJx3⟩⟩
  ·obtain rfl:k=zs.length:=by omega
   gi_wp2
   go_end0
   exact⟨⟨_,rfl⟩,.inl ⟨_,rfl,by simpa using hJs⟩⟩
theorem aoB(F:Fence)(n:Nat)(h7:F.fn 173)(Gk:F.round=none)(hn:1<=n)(Bs n₀ b cap:Nat)(zs:List (Int×Int))(xe:zs.length<=100000)(w:World)(tO:Bs<w.heap.size)(hn₀:n₀<=w.heap.size)(hb:b<n₀)
 (hc:w.cell? ⟨Bs,0,none⟩=some (.slice (some ⟨b,0,none⟩) zs.length cap))(hI:fV w b zs):
 SeqStopsK F n prog 173 #[.pointer (some ⟨Bs,0,none⟩)] (fun x:Int×Int=>#[JF x]) (Below n₀) (fun ys=>ys=zs) (fun pre=>pre<+:zs) zs.length w:=fun l J Jx W hW hJ _ hY h0=>
 aoz F n h7 Gk hn l Bs n₀ b cap zs xe hb J Jx hY W (Be hn₀ hW.size) ((hW.cell (p:=⟨Bs,0,none⟩) tO).trans hc)
  (fun i hi=>⟨(hW.cell (p:=⟨b,i*2,none⟩) (by show b<_;omega)).trans (hI i hi).1,(hW.cell (p:=⟨b,i*2+1,none⟩) (by show b<_;omega)).trans (hI i hi).2⟩) hJ h0
theorem afP(F:Fence)(n:Nat)(h3:F.fn 188)(h5:F.fn 173)(Gk:F.round=none)(hn:3<=n)(Bs b cap:Nat)(zs:List (Int×Int))(cT:zs.length<=100000)(w:World)(tO:Bs<w.heap.size)(hb:b<w.heap.size)
 (iD:w.cell? ⟨Bs,0,none⟩=some (.slice (some ⟨b,0,none⟩) zs.length cap))(hI:fV w b zs):
 CallsIn F n prog 188 #[.slice none 0 0,.func (.func 173) #[] #[.pointer (some ⟨Bs,0,none⟩)]] w fun e W'=>∃v,e=.returned v/\W'.ownsRow w.heap.size 219 2 v zs.length (db zs)/\Below w.heap.size w W':=by
 have h1:1<=n:=by omega
 obtain⟨i0,hi,di,dj,cY⟩:=Bo Tryz.Jf;refine callsIn_of_wp_marks func188 rfl h3 ?_ Gk;simp only[ntmps188,Dh,Ax,Bb,Nat.reduceAdd,Nat.reduceSub,Db,Dc,Du,Dj,Dk,C1];gi_wp2;have bO:=Boxed.new w 60 (.slice none 0 0);have wR:Below w.heap.size w (w.alloc (.cells #[.slice none 0 0] 60)):=(Fp _ w).alloc (Ab _) _;have aiD:(w.alloc (.cells #[.slice none 0 0] 60)).cell? ⟨Bs,0,none⟩=some (.slice (some ⟨b,0,none⟩) zs.length cap):=(wR.cell (p:=⟨Bs,0,none⟩) tO).trans iD;have hI':fV (w.alloc (.cells #[.slice none 0 0] 60)) b zs:=hI.kept ((aa.refl af w).alloc _) hb (fun hx=>hx)
 refine wpIn_rangeFunc_ownH Gk h1 (gf:=173) (lb:=#[.pointer (some ⟨Bs,0,none⟩)]) rfl h5 (enters_of func173 (by kernel_rfl) rfl)
  (aoB F (n-1) h5 Gk (by omega) Bs w.heap.size b cap zs cT _ (by simp;omega) (by simp) hb aiD hI') belowK_t (belowK_b (by simp)) (Fp _ _) (fun _=>rfl)
  (fun pre W=>(∃v,Boxed W w.heap.size 60 v/\W.ownsRow w.heap.size 219 2 v pre.length (db pre)/\True)/\Below w.heap.size w W)
  (fun _ _ _=>False)
  (OwnFrom.and (Own.from (holdsRow_own w.heap.size w.heap.size 60 219 2 (fun pre=>pre.length) (fun pre=>db pre) (fun pre v=>True)) _) (ownFrom_below (Ab _) (by simp)))
  (fun _ _ _ _ _ hs _ _=>hs)
  ⟨⟨_,bO,A7 _ _ _ _,trivial⟩,wR⟩
  (fun x a' W=>∃Bx,w.heap.size<Bx/\aq W Bx #[.int .i32 x.1,.int .i32 x.2] 219/\a'={tmps:=#[.slice none 0 0,.func (.func 173) #[] #[.pointer (some ⟨Bs,0,none⟩)],.pointer (some ⟨w.heap.size,0,none⟩),undef,.slice none 0 0,.pointer (some ⟨Bx,0,none⟩),.func (.func 173) #[] #[.pointer (some ⟨Bs,0,none⟩)],JF x,undef,undef,undef,undef,undef],defers:=[]})
  (fun x a' _ X Y row hs hg hr=>by obtain⟨Bx,h1,h2,h3⟩:=hs;exact⟨Bx,h1,Tl Bx #[.int .i32 x.1,.int .i32 x.2] 219 () X Y row h2 hg (fun r e=>(hr r e).2),h3⟩)
  ?assign ?body ?done ?stop
 case assign=>
  rintro l pre x W K ⟨⟨v,hv,dL,_⟩,hB⟩ hK;simp only[JF]at hK⊢;gi_wp2;exact hK _ _ ((KeepsOthers.alloc _ _).from _) ((Fp _ W).alloc hB.size _) ⟨⟨v,hv.alloc _,dL.alloc _,trivial⟩,hB.alloc hB.size _⟩ ⟨W.heap.size,hv.lt,aq.new W _ _,rfl⟩
 case body=>
  rintro l pre x a' W hl ⟨r,hr⟩ ⟨⟨v,hv,dL,_⟩,hB⟩ ⟨Bx,hBx,bX,rfl⟩ aw;have hc:=hv.cell;have x0:W.cell? ⟨Bx,0,none⟩=some (.int .i32 x.1):=bX.cell 0;have x1:W.cell? ⟨Bx,1,none⟩=some (.int .i32 x.2):=bX.cell 1;simp only[JF];gi_wp2_with (gi_at_builtin;refine wpListIn_append_own _ rfl _ _ 60 rfl w.heap.size 219 i0 (.agg #[.int .i32 0,.int .i32 0]) 2 8 underlying60 hi di dj cY rfl (by decide) _ _ _ rfl (dL.alloc _) ⟨W.heap.size,0,none⟩ 1 1 [.int .i32 x.1,.int .i32 x.2] rfl rfl (fun j u h=>uy _ _ _ j u h) (by simp[Value.oneCell']) (by unfold maxLen;omega) (by omega) (by have:=hB.size;simp;omega) ?_;intro v' w1 bG bY _;obtain⟨g',KZ,rfl⟩:=ownsRow_succ bG;obtain⟨ml,nI,rK,aO,od⟩:=hv.appended (by decide) dL hB.size (Ab _) bG bY;have nD:=ml.cell;have hf1:=ml.frozen);exact⟨aO.from _,od,⟨⟨_,nI,by rw[Lo];simpa[db]using rK,trivial⟩,hB.trans od⟩⟩
 case done=>
  rintro D ys W hD rfl ⟨⟨v,hv,dL,dX⟩,hB⟩ hK;have hc:=hv.cell;gi_wp2;refine⟨by simp,.inl ⟨_,_,rfl,run_takeDeferred hK,?_⟩⟩;exact⟨_,results_tmp rfl _ _ _,v,rfl,ownsRow_putObj dL _ hK rfl,hB.trans (belowK_b (w:=w) (Ab _) W D _ _ (by simp at hD;omega) hK rfl rfl)⟩
 case stop=>
  rintro D c pre W _ _ h _;exact h.elim
end Go.Proofs.YtpdnofhackjfdaaGreatDoor
namespace Go.Proofs.YtpdnofhackjfdaaGreatDoor
open Go.Proofs.Tryz
open Go.RowKit Go.Shelf Go.Lib Go.Sort
variable {d:Array (Int×Int)} {g:Nat} {w w':World}
def Tryz.Rs:Go.Shelf.Ren:=⟨fun|6=>172|15=>124|14=>189|28=>158|29=>159|20=>193|21=>194|22=>195|23=>196|24=>197|25=>198|26=>199|27=>200|46=>204|47=>176|48=>177|49=>205|50=>206|57=>207|n=>n,fun|22=>60|24=>219|25=>245|3=>3|39=>197|0=>0|53=>234|55=>207|4=>4|46=>248|45=>247|50=>95|5=>5|9=>9|66=>265|70=>269|76=>278|77=>227|n=>n,fun|n=>n⟩
theorem Tryz.Rq:Go.Proofs.SlLaysF0.n6 prog Tryz.Rs:={
 mixed:=by kernel_rfl
 f6:=⟨Tryz.f172.name,by decide,func172.trans (congrArg some (by kernel_rfl))⟩
 f14:=⟨Tryz.f189.name,by decide,func189.trans (congrArg some (by kernel_rfl))⟩
 f15:=func124.trans (congrArg some (by kernel_rfl))
 f20:=⟨Tryz.f193.name,by decide,func193.trans (congrArg some (by kernel_rfl))⟩
 f21:=⟨Tryz.f194.name,by decide,func194.trans (congrArg some (by kernel_rfl))⟩
 f22:=⟨Tryz.f195.name,by decide,func195.trans (congrArg some (by kernel_rfl))⟩
 f23:=⟨Tryz.f196.name,by decide,func196.trans (congrArg some (by kernel_rfl))⟩
 f24:=⟨Tryz.f197.name,by decide,func197.trans (congrArg some (by kernel_rfl))⟩
 f25:=⟨Tryz.f198.name,by decide,func198.trans (congrArg some (by kernel_rfl))⟩
 f26:=⟨Tryz.f199.name,by decide,func199.trans (congrArg some (by kernel_rfl))⟩
 f27:=⟨Tryz.f200.name,by decide,func200.trans (congrArg some (by kernel_rfl))⟩
 f28:=func158.trans (congrArg some (by kernel_rfl))
 f29:=func159.trans (congrArg some (by kernel_rfl))
 f46:=⟨Tryz.f204.name,by decide,func204.trans (congrArg some (by kernel_rfl))⟩
 f47:=func176.trans (congrArg some (by kernel_rfl))
 f48:=func177.trans (congrArg some (by kernel_rfl))
 f49:=⟨Tryz.f205.name,by decide,func205.trans (congrArg some (by kernel_rfl))⟩
 f50:=⟨Tryz.f206.name,by decide,func206.trans (congrArg some (by kernel_rfl))⟩
 f57:=⟨Tryz.f207.name,by decide,func207.trans (congrArg some (by kernel_rfl))⟩
 t0:=underlying0
 a0:=isAgg0
 z0:=sizeOf0
 v0:=zeroValue0
 t3:=underlying3
 a3:=isAgg3
 z3:=sizeOf3
 v3:=zeroValue3
 t4:=underlying4
 a4:=isAgg4
 z4:=sizeOf4
 v4:=zeroValue4
 t5:=underlying5
 a5:=isAgg5
 z5:=sizeOf5
 v5:=zeroValue5
 t9:=underlying9
 a9:=isAgg9
 z9:=sizeOf9
 v9:=zeroValue9
 t22:=underlying60
 a22:=isAgg60
 z22:=sizeOf60
 v22:=zeroValue60
 t25:=underlying245
 a25:=isAgg245
 z25:=sizeOf245
 v25:=zeroValue245
 t39:=underlying197
 a39:=isAgg197
 z39:=sizeOf197
 v39:=zeroValue197
 t45:=underlying247
 a45:=isAgg247
 z45:=sizeOf247
 v45:=zeroValue247
 t46:=underlying248
 a46:=isAgg248
 z46:=sizeOf248
 v46:=zeroValue248
 t50:=underlying95
 a50:=isAgg95
 z50:=sizeOf95
 v50:=zeroValue95
 t53:=underlying234
 a53:=isAgg234
 z53:=sizeOf234
 v53:=zeroValue234
 t55:=underlying207
 a55:=isAgg207
 z55:=sizeOf207
 v55:=zeroValue207
 t66:=underlying265
 a66:=isAgg265
 z66:=sizeOf265
 v66:=zeroValue265
 t70:=underlying269
 a70:=isAgg269
 z70:=sizeOf269
 v70:=zeroValue269
 t76:=underlying278
 a76:=isAgg278
 z76:=sizeOf278
 v76:=zeroValue278
 t77:=underlying227
 a77:=isAgg227
 z77:=sizeOf227
 v77:=zeroValue227}
def sH(x:Int×Int):List Value:=[.int .i32 x.1,.int .i32 x.2]
theorem ack(x:Int)(W:World):Calls prog 174 #[.int .i32 x] W fun e w'=>e=.returned (.bool false)/\w'=W:=by
 have hb:(x !=x)=false:=by simp
 go_in
 go_wp2
 go_ret
 exact⟨by simp,rfl⟩
theorem ag5(x y:Int)(W:World):Calls prog 148 #[.int .i32 x,.int .i32 y] W fun e w'=>e=.returned (.int .i64 (Lib.compareInt x y))/\w'=W:=by
 go_in
 go_wp2_with (go_at_call 174;refine(ack _ _).mono ?_;rintro e w' ⟨rfl,rfl⟩)
 all_goals go_ret
 all_goals refine⟨?_,rfl⟩
 all_goals simp[Lib.compareInt]
 all_goals omega
theorem agZ(x y:Int×Int)(W:World):Calls prog 147 #[.agg #[.int .i32 x.1,.int .i32 x.2],.agg #[.int .i32 y.1,.int .i32 y.2]] W fun e w'=>e=.returned (.int .i64 (Lib.compareInt x.1 y.1))/\∃q os',w'=grow (W.drewN q) os':=by
 have AI:=fun W'=>ag5 x.1 y.1 W'
 generalize Lib.compareInt x.1 y.1=r at AI⊢
 go_in
 go_wp2_with (go_at_call 148;refine(AI _).mono ?_;rintro e w' ⟨rfl,rfl⟩)
 go_ret
 exact⟨rfl,0,_,by rw[alloc_eq_grow,alloc_eq_grow,grow_grow];rfl⟩
theorem ag0(ak off size:Nat)(w:World):CmpLays prog 147 #[] sH 2 (fun x y=>Lib.compareInt x.1 y.1) ak off size w:=
 fun _ _ _ _ x y=>agZ x y _
theorem QG(x y:Int×Int):ltOf (fun x y:Int×Int=>Lib.compareInt x.1 y.1) x y=decide (x.1<y.1):=by
 unfold ltOf Lib.compareInt;by_cases h1:x.1<y.1
 ·simp[h1]
 ·by_cases h2:y.1<x.1<;>simp[h1,h2]
theorem an4:SWO (ltOf fun x y:Int×Int=>Lib.compareInt x.1 y.1) where
 irrefl x:=by rw[QG];simp
 trans x y z h1 h2:=by rw[QG]at*;simp at*;omega
 ntrans x y z h1 h2:=by rw[QG]at*;simp at*;omega
theorem TI(d:Array (Int×Int))(j:Nat)(h:j<d.size*2):(db d.toList)[j]? =some (flatK sH 2 d)[j]! :=by
 rw[get_flatK _ _ _ _ h];have hj:j/2<d.toList.length:=by simp;omega
 have hg:=Lp d.toList (j/2) hj;have e1:d[j/2]! =d.toList[j/2]:=by simp at hj;simp[hj]
 rw[e1];rcases Ek j with h0|h0
 ·rw[h0,show(db d.toList)[j]? =(db d.toList)[j/2*2]? by congr 1;omega,hg.1];simp[sH]
 ·rw[h0,show(db d.toList)[j]? =(db d.toList)[j/2*2+1]? by congr 1;omega,hg.2];simp[sH]
theorem ajh{base cap:Nat}(h:w.ownsRow base 219 2 (.slice (some ⟨g,0,none⟩) d.size cap) d.size (db d.toList)):HoldsK sH 2 w g 0 d/\g<w.heap.size/\base<=g:=by
 rcases h.2 with⟨he,_⟩|⟨g',KZ,aL,he,a1,a2,a3,a4,a5,a6⟩
 ·cases he
 ·cases he;refine⟨fun j hj=>?_,(Ak.1 a2).1,a1⟩
  rw[size_flatK]at hj;have hf:=TI d j hj;rw[<-a6,Av hj]at hf;constructor
  ·simp only[World.cell?,a2,Ba];simpa using hf
  ·simp[World.frozen?,a2]
theorem agI(h:HoldsK sH 2 w g 0 d):fV w g d.toList:=by
 intro i hi;have hi':i<d.size:=by simpa using hi
 have e:=Lp d.toList i hi;have c0:=h (i*2) (by rw[size_flatK];omega);have c1:=h (i*2+1) (by rw[size_flatK];omega);have f0:=TI d (i*2) (by omega);have f1:=TI d (i*2+1) (by omega);rw[e.1]at f0;rw[e.2]at f1;have f0':=C6 f0;have f1':=C6 f1;have OR:=c0.1;have c1':=c1.1;rw[Ba]at OR c1';exact⟨OR.trans (by rw[f0'];rfl),c1'.trans (by rw[f1'];rfl)⟩
theorem anK(w:World)(ak off m:Nat)(dk:Array (Int×Int))(os:Array Obj):aa (fun i=>i=ak) w (sortWorldK sH 2 w ak off m dk os):=by
 refine⟨rfl,rfl,rfl,size_sortWorldK_c sH 2 w ak off m dk os,fun k hk hs=>?_⟩;show((putRowK sH 2 (Sort.ahead w m) ak off dk).heap++os)[k]? =w.heap[k]?
 have aS:(putRowK sH 2 (Sort.ahead w m) ak off dk).heap.size=w.heap.size:=by rw[size_putRowK];rfl
 rw[Array.getElem?_append_left (by omega)];show(w.heap.modify ak _)[k]? =_
 rw[Ef,if_neg (fun e=>hs e.symm)]
theorem amr{d':Array (Int×Int)}(h:PermIn 0 d.size d d'):d'.toList.Perm d.toList:=by
 have h1:=h.2.2;have h0:=h.1;rw[show d'.extract 0 d.size=d' by rw[<-h0];simp,show d.extract 0 d.size=d by simp]at h1;exact h1
theorem ame{n:Nat}(hn:n=d.size)(h:SortedIn (ltOf fun x y:Int×Int=>Lib.compareInt x.1 y.1) 0 n d):d.toList.Pairwise (fun a b=>a.1<=b.1):=by
 rw[Ce];intro i j hi hj cQ;have hi':i<d.size:=by simpa using hi
 have LZ:j<d.size:=by simpa using hj
 have:=h i j (Am _) cQ (by omega);rw[QG]at this;simp[hi',LZ]at this;simpa using this
theorem ag1(Bs b cap:Nat)(zs:List (Int×Int))(cT:zs.length<=100000)(w:World)(tO:Bs<w.heap.size)(hb:b<w.heap.size)
 (iD:w.cell? ⟨Bs,0,none⟩=some (.slice (some ⟨b,0,none⟩) zs.length cap))(hI:fV w b zs):
 Calls prog 171 #[.func (.func 173) #[] #[.pointer (some ⟨Bs,0,none⟩)]] w fun e W'=>∃v,e=.returned v/\W'.ownsRow w.heap.size 219 2 v zs.length (db zs)/\aa af w W':=by
 have AI:Calls prog 188 #[.slice none 0 0,.func (.func 173) #[] #[.pointer (some ⟨Bs,0,none⟩)]] w fun e W'=>∃v,e=.returned v/\W'.ownsRow w.heap.size 219 2 v zs.length (db zs)/\Below w.heap.size w W':=
  Fv.1 (afP Fence.wide 6 trivial trivial rfl (by omega) Bs b cap zs cT w tO hb iD hI)
 go_in
 go_wp2_with fail
 refine AI.mono ?_;rintro e w1 ⟨v,rfl,hv,hB⟩;go_wp2_with fail;go_ret;exact⟨v,rfl,hv,Below.kept hB rfl⟩
theorem anM(Bs b cap:Nat)(zs:List (Int×Int))(cT:zs.length<=100000)(az:zs≠ [])(w:World)(tO:Bs<w.heap.size)(hb:b<w.heap.size)
 (iD:w.cell? ⟨Bs,0,none⟩=some (.slice (some ⟨b,0,none⟩) zs.length cap))(hI:fV w b zs):
 Calls prog 145 #[.func (.func 173) #[] #[.pointer (some ⟨Bs,0,none⟩)],.func (.func 147) #[] #[]] w fun e w'=>∃l gb ry,e=.returned (.slice (some ⟨gb,0,none⟩) l.length ry)/\l.Perm zs/\l.Pairwise (fun a b=>a.1<=b.1)/\fV w' gb l/\w.heap.size<=gb/\gb<w'.heap.size/\aa af w w':=by
 obtain⟨z0,zr,rfl⟩:∃z0 zr,zs=z0::zr:=List.exists_cons_of_ne_nil az
 go_in
 go_wp2_with fail
 refine(ag1 Bs b cap (z0::zr) cT w tO hb iD hI).mono ?_;rintro e w1 ⟨v,rfl,hv,aT⟩;obtain⟨g,ry,rfl⟩:=ownsRow_succ hv;have ho:=ajh (d:=(z0::zr).toArray) (by simpa using hv);have eg:∀args w,(callFunc 147 args).run prog w=.ok (.enter 147 args) w:=enters_of func147 (by kernel_rfl) rfl
 have AI:=AnyQ.slices_SortFunc Tryz.Rq 2 isAgg219 sizeOf219 sH (fun _=>rfl) (fun x v hv=>by simp[sH]at hv;rcases hv with rfl|rfl<;>rfl) (fun x y=>Lib.compareInt x.1 y.1) an4 147 #[] g 0 ry (z0::zr).toArray w1 eg (ag0 g 0 _ w1) ho.1 ho.2.1 (by simp at cT⊢;omega);change Calls prog 172 _ _ _ at AI;simp only[Dh,Ax]at AI;clear hv;go_wp2_with fail;refine AI.mono ?_;rintro e w2 ⟨rfl,d',n,os,hp,hs,rfl⟩;go_wp2_with fail;go_ret;have wZ:=amr (d:=(z0::zr).toArray) (by simpa using hp);have aS:d'.size=zr.length+1:=by have:=wZ.length_eq;simpa using this
 have kk:=anK w1 g 0 n d' os;have hH:=holdsK_sortWorldK_c sH 2 w1 g 0 (z0::zr).toArray d' n os ho.1 ho.2.1 (by simp[aS]);refine⟨d'.toList,g,ry,by simp[aS],by simpa using wZ,ame aS.symm hs,agI hH,ho.2.2,Ar ho.2.1 kk.size,aT.bV kk (fun i hi he=>?_)⟩;have:=ho.2.2;omega
end Go.Proofs.YtpdnofhackjfdaaGreatDoor
namespace Go.Proofs.YtpdnofhackjfdaaGreatDoor
open Go.Proofs.Tryz
variable {d:Array (Int×Int)} {g:Nat} {w w':World}
def VX(r:Int):List (Int×Int):=
 if r=100\/r=68 then [(48,57)]else if r=119\/r=87 then [(97,122),(65,90),(48,57),(95,95)]else [(9,10),(13,13),(32,32)]
structure TX where
 l:List (Nat×Int)
 len:Nat
def TX.aW(x:TX)(i:Nat):Int:=((x.l.map fun p=>(p.1:Int))[i]?).getD x.len
def TX.bu(x:TX)(i:Nat):Int:=((x.l.map (·.2))[i]?).getD (-1)
def bU(sp:List (Int×Int))(r:Int):Bool:=sp.any fun p=>decide (p.1<=r)&&decide (r<=p.2)
def yI(r:Int):Bool:=(decide (97<=r)&&decide (r<=122))||(decide (65<=r)&&decide (r<=90))
def yS(r:Int):Int:=if 97<=r then r-32 else r+32
def TX.wk(x:TX)(i:Int):Bool:=decide (0<=i)&&decide (i<x.l.length)&&bU (VX 119) (x.bu i.toNat)
end Go.Proofs.YtpdnofhackjfdaaGreatDoor
