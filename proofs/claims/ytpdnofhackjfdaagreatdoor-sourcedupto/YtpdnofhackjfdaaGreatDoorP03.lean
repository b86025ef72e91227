/- Spans in memory; -/
import Derived.Test.YtpdnofhackjfdaaGreatDoorP01
set_option linter.all false
set_option maxRecDepth 100000
set_option maxHeartbeats 2000000
namespace Go.Proofs.YtpdnofhackjfdaaGreatDoor
open Go.Proofs.Tryz
open Go.RowKit Go.Shelf
attribute [local go_sem] E8
variable {d:Array (Int×Int)} {g:Nat} {w w':World}
def Kw(x:Int×Int):Value:=.agg #[.int .i32 x.1,.int .i32 x.2]
def dj:List (Int×Int)->List Value
 | []=>[]
 |p::l=>.int .i32 p.1::.int .i32 p.2::dj l
theorem BF(l:List (Int×Int)):(dj l).length=l.length*2:=by
 induction l with
 |nil=>rfl
 |cons p l ih=>simp[dj,ih];omega
theorem Mv(l m:List (Int×Int)):dj (l++m)=dj l++dj m:=by
 induction l with
 |nil=>rfl
 |cons p l ih=>simp[dj,ih]
theorem Mw:∀(l:List (Int×Int)) (i:Nat) (h:i<l.length),(dj l)[i*2]? =some (.int .i32 (l[i]).1)/\(dj l)[i*2+1]? =some (.int .i32 (l[i]).2)
 | [],i,h=>by simp at h
 |p::l,0,_=>by simp[dj]
 |p::l,i+1,h=>by
  have:=Mw l i (by simpa using h);simp only[dj,Ag];rw[show(i+1)*2=i*2+1+1 by omega,show i*2+1+1+1=(i*2+1)+1+1 by omega];simpa using this
theorem abC(l:List (Int×Int)):∀u∈dj l,u.oneCell'=true:=by
 induction l with
 |nil=>intro u h;simp[dj]at h
 |cons p l ih=>
  intro u h;simp only[dj,Ct]at h;rcases h with rfl|rfl|h
  ·rfl
  ·rfl
  ·exact ih u h
theorem uT(w:World)(cs:Array Value)(t:TypeId)(j:Nat)(u:Value)(h:cs.toList[j]? =some u):(w.alloc (.cells cs t)).cell? (Addr.add ⟨w.heap.size,0,none⟩ j)=some u:=by
 have e:Addr.add ⟨w.heap.size,0,none⟩ j=⟨w.heap.size,j,none⟩:=by
  unfold Addr.add;split
  ·rename_i hz;simp
  ·simp
 rw[e,(au.new w cs t).cell j];simpa using h
theorem Tryz.J7:(prog.info? 219).map (fun i=>(i.zero,i.size,i.bytes))=some (some (.agg #[.int .i32 0,.int .i32 0]),2,8):=by kernel_rfl
def gj(w:World)(b:Nat)(l:List (Int×Int)):Prop:=∀i,(h:i<l.length)->w.cell? ⟨b,i*2,none⟩=some (.int .i32 (l[i]).1)/\w.cell? ⟨b,i*2+1,none⟩=some (.int .i32 (l[i]).2)
theorem gj.kept{b:Nat}{l:List (Int×Int)}{S:Nat->Prop}(h:gj w b l)(k:aa S w w')(hb:b<w.heap.size)(hs:¬S b):gj w' b l:=fun i hi=>
 ⟨(k.cell (p:=⟨b,i*2,none⟩) hb hs).trans (h i hi).1,(k.cell (p:=⟨b,i*2+1,none⟩) hb hs).trans (h i hi).2⟩
theorem Below.kept{B:Nat}(h:Below B w w')(hB:B=w.heap.size):aa ai w w':=⟨h.os,h.tape,h.output,h.size,fun k hk _=>h.block k (by omega)⟩
theorem UI{β:Type}(B:Nat)(cs:Array Value)(t:TypeId):Own (fun(_:β) W=>au W B cs t):=by
 intro s X Y row h hg hr;refine(hg.block B h.lt (fun e=>?_)).trans h;obtain⟨o,ho,hc⟩:=hr B e.symm;rw[show X.heap[B]? =_ from h]at ho;cases ho;cases hc
theorem apJ(F:Fence)(n:Nat)(h7:F.fn 173)(H0:F.round=none)(hn:1<=n)(l Bs n₀ b cap:Nat)(zs:List (Int×Int))(xN:zs.length<=100000)(hb:b<n₀)(J Jx:List (Int×Int)->World->Prop)
 (hY:∀pre x W,J pre W->pre.length<zs.length->YieldAt F (n-1) prog l #[Kw x] W fun e W'=>
   (e=.returned (.bool true)/\J (pre++[x]) W'/\Below n₀ W W')\/(e=.returned (.bool false)/\Jx (pre++[x]) W'))
 (W:World)(hn₀:n₀<=W.heap.size)(ui:W.cell? ⟨Bs,0,none⟩=some (.slice (some ⟨b,0,none⟩) zs.length cap))(hc:gj W b zs)(hJ:AbidesFrom W.heap.size J)(h0:J [] W):
 CallsIn F n prog 173 #[.func (.yield l) #[] #[],BT Bs 0] W fun e W'=>(∃v,e=.returned v)/\
  ((∃ys,ys=zs/\J ys W')\/(∃pre,pre<+:zs/\Jx pre W')):=by
 refine callsIn_of_wp func173 rfl h7 ?_ H0;simp only[ntmps173,Dm,Ax,Bf,Nat.reduceAdd,Nat.reduceSub,Df,Dg,Dz,Do,Dp,C4];gi_wp2
 gi_loopw [7] (fun i wr=>∃k:Nat,k<=zs.length/\i=GW k/\J (zs.take k) wr/\Below n₀ W wr)
  (fun i _=>zs.length-(intOf i).toNat)
 case atStart=>exact⟨0,Al _,rfl,by simpa using h0,Fv _ _⟩
 case round=>
  obtain⟨k,hk,rfl,hJs,pF⟩:=hrel;by_cases az:k<zs.length
  ·have q0:wr.cell? ⟨b,k*2,none⟩=some (.int .i32 (zs[k]).1):=(pF.cell (p:=⟨b,k*2,none⟩) hb).trans (hc k az).1;have q1:wr.cell? ⟨b,k*2+1,none⟩=some (.int .i32 (zs[k]).2):=(pF.cell (p:=⟨b,k*2+1,none⟩) hb).trans (hc k az).2;have aW:=pF.size;have QQ:J (zs.take k) (wr.alloc (.cells #[.int .i32 (zs[k]).1,.int .i32 (zs[k]).2] 219)):=hJ _ wr _ none hJs (World.grownBy_alloc wr _ none) (fun r e=>by cases e);obtain⟨fn,tmps,assign,body,hy,hR⟩:=hY _ (zs[k]) _ QQ (by simp;omega);have CY:zs.take k++[zs[k]]=zs.take (k+1):=by rw[D0,Ae az];rfl
   rw[CY]at hR;simp only[Kw]at hy;have c0:=(au.new wr #[.int .i32 (zs[k]).1,.int .i32 (zs[k]).2] 219).cell 0;have c1:=(au.new wr #[.int .i32 (zs[k]).1,.int .i32 (zs[k]).2] 219).cell 1;gi_wp2;refine hR.mono ?_;rintro e W3 (⟨rfl,GH,bm⟩|⟨rfl,hJx3⟩)
   ·gi_wp2
    go_roundw
    case rel=>exact⟨k+1,by omega,by simp,GH,(pF.alloc (by omega) _).trans bm⟩
    case measure=>simp[intOf];omega
   ·gi_wp2
    refine Bm (Dk rfl _ _ _) rfl ?_;exact⟨⟨_,rfl⟩,.inr ⟨_,List.take_prefix _ _,hJx3⟩⟩
  ·obtain rfl:k=zs.length:=by omega
   gi_wp2
   go_end0
   exact⟨⟨_,rfl⟩,.inl ⟨_,rfl,by simpa using hJs⟩⟩
theorem apL(F:Fence)(n:Nat)(h7:F.fn 173)(H0:F.round=none)(hn:1<=n)(Bs n₀ b cap:Nat)(zs:List (Int×Int))(xN:zs.length<=100000)(w:World)(ui:Bs<w.heap.size)(hn₀:n₀<=w.heap.size)(hb:b<n₀)
 (hc:w.cell? ⟨Bs,0,none⟩=some (.slice (some ⟨b,0,none⟩) zs.length cap))(hI:gj w b zs):
 SeqStopsK F n prog 173 #[BT Bs 0] (fun x:Int×Int=>#[Kw x]) (Below n₀) (fun ys=>ys=zs) (fun pre=>pre<+:zs) zs.length w:=fun l J Jx W hW hJ _ hY h0=>
 apJ F n h7 H0 hn l Bs n₀ b cap zs xN hb J Jx hY W (Bh hn₀ hW.size) ((hW.cell (p:=⟨Bs,0,none⟩) ui).trans hc)
  (fun i hi=>⟨(hW.cell (p:=⟨b,i*2,none⟩) (by show b<_;omega)).trans (hI i hi).1,(hW.cell (p:=⟨b,i*2+1,none⟩) (by show b<_;omega)).trans (hI i hi).2⟩) hJ h0
theorem agz(F:Fence)(n:Nat)(h3:F.fn 188)(h5:F.fn 173)(H0:F.round=none)(hn:3<=n)(Bs b cap:Nat)(zs:List (Int×Int))(dc:zs.length<=100000)(w:World)(ui:Bs<w.heap.size)(hb:b<w.heap.size)
 (gV:w.cell? ⟨Bs,0,none⟩=some (.slice (some ⟨b,0,none⟩) zs.length cap))(hI:gj w b zs):
 CallsIn F n prog 188 #[.slice none 0 0,.func (.func 173) #[] #[BT Bs 0]] w fun e W'=>∃v,e=.returned v/\W'.ownsRow w.heap.size 219 2 v zs.length (dj zs)/\Below w.heap.size w W':=by
 have h1:1<=n:=by omega
 obtain⟨i0,hi,dm,du,de⟩:=Bo Tryz.J7;refine callsIn_of_wp_marks func188 rfl h3 ?_ H0;simp only[ntmps188,Dm,Ax,Bf,Nat.reduceAdd,Nat.reduceSub,Df,Dg,Dz,Do,Dp,C4];gi_wp2;have bO:=Boxed.new w 60 (.slice none 0 0);have xC:Below w.heap.size w (w.alloc (.cells #[.slice none 0 0] 60)):=(Fv _ w).alloc (Ab _) _;have ajs:(w.alloc (.cells #[.slice none 0 0] 60)).cell? ⟨Bs,0,none⟩=some (.slice (some ⟨b,0,none⟩) zs.length cap):=(xC.cell (p:=⟨Bs,0,none⟩) ui).trans gV;have hI':gj (w.alloc (.cells #[.slice none 0 0] 60)) b zs:=hI.kept ((aa.refl ai w).alloc _) hb (fun hx=>hx)
 refine wpIn_rangeFunc_ownH H0 h1 (gf:=173) (lb:=#[BT Bs 0]) rfl h5 (enters_of func173 (by kernel_rfl) rfl)
  (apL F (n-1) h5 H0 (by omega) Bs w.heap.size b cap zs dc _ (by simp;omega) (by simp) hb ajs hI') belowK_t (belowK_b (by simp)) (Fv _ _) (fun _=>rfl)
  (fun pre W=>(∃v,Boxed W w.heap.size 60 v/\W.ownsRow w.heap.size 219 2 v pre.length (dj pre)/\True)/\Below w.heap.size w W)
  (fun _ _ _=>False)
  (OwnFrom.and (Own.from (holdsRow_own w.heap.size w.heap.size 60 219 2 (fun pre=>pre.length) (fun pre=>dj pre) (fun pre v=>True)) _) (ownFrom_below (Ab _) (by simp)))
  (fun _ _ _ _ _ hs _ _=>hs)
  ⟨⟨_,bO,A8 _ _ _ _,trivial⟩,xC⟩
  (fun x a' W=>∃Bx,w.heap.size<Bx/\au W Bx #[.int .i32 x.1,.int .i32 x.2] 219/\a'={tmps:=#[.slice none 0 0,.func (.func 173) #[] #[BT Bs 0],BT w.heap.size 0,undef,.slice none 0 0,BT Bx 0,.func (.func 173) #[] #[BT Bs 0],Kw x,undef,undef,undef,undef,undef],defers:=[]})
  (fun x a' _ X Y row hs hg hr=>by obtain⟨Bx,h1,h2,h3⟩:=hs;exact⟨Bx,h1,UI Bx #[.int .i32 x.1,.int .i32 x.2] 219 () X Y row h2 hg (fun r e=>(hr r e).2),h3⟩)
  ?assign ?body ?done ?stop
 case assign=>
  rintro l pre x W K ⟨⟨v,hv,dU,_⟩,hB⟩ hK;simp only[Kw]at hK⊢;gi_wp2;exact hK _ _ ((KeepsOthers.alloc _ _).from _) ((Fv _ W).alloc hB.size _) ⟨⟨v,hv.alloc _,dU.alloc _,trivial⟩,hB.alloc hB.size _⟩ ⟨W.heap.size,hv.lt,au.new W _ _,rfl⟩
 case body=>
  rintro l pre x a' W hl ⟨r,hr⟩ ⟨⟨v,hv,dU,_⟩,hB⟩ ⟨Bx,hBx,bX,rfl⟩ az;have hc:=hv.cell;have x0:W.cell? ⟨Bx,0,none⟩=some (.int .i32 x.1):=bX.cell 0;have x1:W.cell? ⟨Bx,1,none⟩=some (.int .i32 x.2):=bX.cell 1;simp only[Kw];gi_wp2_with (gi_at_builtin;refine wpListIn_append_own _ rfl _ _ 60 rfl w.heap.size 219 i0 (.agg #[.int .i32 0,.int .i32 0]) 2 8 underlying60 hi dm du de rfl (by decide) _ _ _ rfl (dU.alloc _) ⟨W.heap.size,0,none⟩ 1 1 [.int .i32 x.1,.int .i32 x.2] rfl rfl (fun j u h=>uT _ _ _ j u h) (by simp[Value.oneCell']) (by unfold maxLen;omega) (by omega) (by have:=hB.size;simp;omega) ?_;intro v' w1 bL cy _;obtain⟨g',Mf,rfl⟩:=ownsRow_succ bL;obtain⟨mI,nV,qZ,aS,oB⟩:=hv.appended (by decide) dU hB.size (Ab _) bL cy;have nR:=mI.cell;have hf1:=mI.frozen);exact⟨aS.from _,oB,⟨⟨_,nV,by rw[Mv];simpa[dj]using qZ,trivial⟩,hB.trans oB⟩⟩
 case done=>
  rintro D ys W hD rfl ⟨⟨v,hv,dU,eF⟩,hB⟩ hK;have hc:=hv.cell;gi_wp2;refine⟨by simp,.inl ⟨_,_,rfl,run_takeDeferred hK,?_⟩⟩;exact⟨_,results_tmp rfl _ _ _,v,rfl,ownsRow_putObj dU _ hK rfl,hB.trans (belowK_b (w:=w) (Ab _) W D _ _ (by simp at hD;omega) hK rfl rfl)⟩
 case stop=>
  rintro D c pre W _ _ h _;exact h.elim
end Go.Proofs.YtpdnofhackjfdaaGreatDoor
namespace Go.Proofs.YtpdnofhackjfdaaGreatDoor
open Go.Proofs.Tryz
open Go.RowKit Go.Shelf Go.Lib Go.Sort
variable {d:Array (Int×Int)} {g:Nat} {w w':World}
def Tryz.SQ:Go.Shelf.Ren:=⟨fun|6=>172|15=>124|14=>189|28=>158|29=>159|20=>193|21=>194|22=>195|23=>196|24=>197|25=>198|26=>199|27=>200|46=>204|47=>176|48=>177|49=>205|50=>206|57=>207|n=>n,fun|22=>60|24=>219|25=>245|3=>3|39=>197|0=>0|53=>234|55=>207|4=>4|46=>248|45=>247|50=>95|5=>5|9=>9|66=>265|70=>269|76=>278|77=>227|n=>n,fun|n=>n⟩
theorem Tryz.SP:Go.Proofs.SlLaysF0.n6 prog Tryz.SQ:={
 mixed:=by kernel_rfl
 f6:=⟨Tryz.f172.name,by decide,func172.trans (congrArg some (by kernel_rfl))⟩
 f14:=⟨Tryz.f189.name,by decide,func189.trans (congrArg some (by kernel_rfl))⟩
 f15:=func124.trans (congrArg some (by kernel_rfl))
 f20:=⟨Tryz.f193.name,by decide,func193.trans (congrArg some (by kernel_rfl))⟩
 f21:=⟨Tryz.f194.name,by decide,func194.trans (congrArg some (by kernel_rfl))⟩
 f22:=⟨Tryz.f195.name,by decide,func195.trans (congrArg some (by kernel_rfl))⟩
 f23:=⟨Tryz.f196.name,by decide,func196.trans (congrArg some (by kernel_rfl))⟩
 f24:=⟨Tryz.f197.name,by decide,func197.trans (congrArg some (by kernel_rfl))⟩
 f25:=⟨Tryz.f198.name,by decide,func198.trans (congrArg some (by kernel_rfl))⟩
 f26:=⟨Tryz.f199.name,by decide,func199.trans (congrArg some (by kernel_rfl))⟩
 f27:=⟨Tryz.f200.name,by decide,func200.trans (congrArg some (by kernel_rfl))⟩
 f28:=func158.trans (congrArg some (by kernel_rfl))
 f29:=func159.trans (congrArg some (by kernel_rfl))
 f46:=⟨Tryz.f204.name,by decide,func204.trans (congrArg some (by kernel_rfl))⟩
 f47:=func176.trans (congrArg some (by kernel_rfl))
 f48:=func177.trans (congrArg some (by kernel_rfl))
 f49:=⟨Tryz.f205.name,by decide,func205.trans (congrArg some (by kernel_rfl))⟩
 f50:=⟨Tryz.f206.name,by decide,func206.trans (congrArg some (by kernel_rfl))⟩
 f57:=⟨Tryz.f207.name,by decide,func207.trans (congrArg some (by kernel_rfl))⟩
 t0:=underlying0
 a0:=isAgg0
 z0:=sizeOf0
 v0:=zeroValue0
 t3:=underlying3
 a3:=isAgg3
 z3:=sizeOf3
 v3:=zeroValue3
 t4:=underlying4
 a4:=isAgg4
 z4:=sizeOf4
 v4:=zeroValue4
 t5:=underlying5
 a5:=isAgg5
 z5:=sizeOf5
 v5:=zeroValue5
 t9:=underlying9
 a9:=isAgg9
 z9:=sizeOf9
 v9:=zeroValue9
 t22:=underlying60
 a22:=isAgg60
 z22:=sizeOf60
 v22:=zeroValue60
 t25:=underlying245
 a25:=isAgg245
 z25:=sizeOf245
 v25:=zeroValue245
 t39:=underlying197
 a39:=isAgg197
 z39:=sizeOf197
 v39:=zeroValue197
 t45:=underlying247
 a45:=isAgg247
 z45:=sizeOf247
 v45:=zeroValue247
 t46:=underlying248
 a46:=isAgg248
 z46:=sizeOf248
 v46:=zeroValue248
 t50:=underlying95
 a50:=isAgg95
 z50:=sizeOf95
 v50:=zeroValue95
 t53:=underlying234
 a53:=isAgg234
 z53:=sizeOf234
 v53:=zeroValue234
 t55:=underlying207
 a55:=isAgg207
 z55:=sizeOf207
 v55:=zeroValue207
 t66:=underlying265
 a66:=isAgg265
 z66:=sizeOf265
 v66:=zeroValue265
 t70:=underlying269
 a70:=isAgg269
 z70:=sizeOf269
 v70:=zeroValue269
 t76:=underlying278
 a76:=isAgg278
 z76:=sizeOf278
 v76:=zeroValue278
 t77:=underlying227
 a77:=isAgg227
 z77:=sizeOf227
 v77:=zeroValue227}
def sZ(x:Int×Int):List Value:=[.int .i32 x.1,.int .i32 x.2]
theorem ac1(x:Int)(W:World):Calls prog 174 #[.int .i32 x] W fun e w'=>e=.returned (.bool false)/\w'=W:=by
 have hb:(x !=x)=false:=by simp
 go_in
 go_wp2
 go_ret
 exact⟨by simp,rfl⟩
theorem ahS(x y:Int)(W:World):Calls prog 148 #[.int .i32 x,.int .i32 y] W fun e w'=>e=.returned (GW (Lib.compareInt x y))/\w'=W:=by
 go_in
 go_wp2_with (go_at_call 174;refine(ac1 _ _).mono ?_;rintro e w' ⟨rfl,rfl⟩)
 all_goals go_ret
 all_goals refine⟨?_,rfl⟩
 all_goals simp[Lib.compareInt]
 all_goals omega
theorem ahM(x y:Int×Int)(W:World):Calls prog 147 #[.agg #[.int .i32 x.1,.int .i32 x.2],.agg #[.int .i32 y.1,.int .i32 y.2]] W fun e w'=>e=.returned (GW (Lib.compareInt x.1 y.1))/\∃q os',w'=grow (W.drewN q) os':=by
 have CJ:=fun W'=>ahS x.1 y.1 W'
 generalize Lib.compareInt x.1 y.1=r at CJ⊢
 go_in
 go_wp2_with (go_at_call 148;refine(CJ _).mono ?_;rintro e w' ⟨rfl,rfl⟩)
 go_ret
 exact⟨rfl,0,_,by rw[alloc_eq_grow,alloc_eq_grow,grow_grow];rfl⟩
theorem ahN(aq off size:Nat)(w:World):CmpLays prog 147 #[] sZ 2 (fun x y=>Lib.compareInt x.1 y.1) aq off size w:=
 fun _ _ _ _ x y=>ahM x y _
theorem R5(x y:Int×Int):ltOf (fun x y:Int×Int=>Lib.compareInt x.1 y.1) x y=decide (x.1<y.1):=by
 unfold ltOf Lib.compareInt;by_cases h1:x.1<y.1
 ·simp[h1]
 ·by_cases h2:y.1<x.1<;>simp[h1,h2]
theorem apf:SWO (ltOf fun x y:Int×Int=>Lib.compareInt x.1 y.1) where
 irrefl x:=by rw[R5];simp
 trans x y z h1 h2:=by rw[R5]at*;simp at*;omega
 ntrans x y z h1 h2:=by rw[R5]at*;simp at*;omega
theorem U8(d:Array (Int×Int))(j:Nat)(h:j<d.size*2):(dj d.toList)[j]? =some (flatK sZ 2 d)[j]! :=by
 rw[get_flatK _ _ _ _ h];have hj:j/2<d.toList.length:=by simp;omega
 have hg:=Mw d.toList (j/2) hj;have e1:d[j/2]! =d.toList[j/2]:=by simp at hj;simp[hj]
 rw[e1];rcases Er j with h0|h0
 ·rw[h0,show(dj d.toList)[j]? =(dj d.toList)[j/2*2]? by congr 1;omega,hg.1];simp[sZ]
 ·rw[h0,show(dj d.toList)[j]? =(dj d.toList)[j/2*2+1]? by congr 1;omega,hg.2];simp[sZ]
theorem aj_{base cap:Nat}(h:w.ownsRow base 219 2 (.slice (some ⟨g,0,none⟩) d.size cap) d.size (dj d.toList)):HoldsK sZ 2 w g 0 d/\g<w.heap.size/\base<=g:=by
 rcases h.2 with⟨he,_⟩|⟨g',Mf,aO,he,a1,a2,a3,a4,a5,a6⟩
 ·cases he
 ·cases he;refine⟨fun j hj=>?_,(Am.1 a2).1,a1⟩
  rw[size_flatK]at hj;have hf:=U8 d j hj;rw[<-a6,Av hj]at hf;constructor
  ·simp only[World.cell?,a2,Ba];simpa using hf
  ·simp[World.frozen?,a2]
theorem ahx(h:HoldsK sZ 2 w g 0 d):gj w g d.toList:=by
 intro i hi;have hi':i<d.size:=by simpa using hi
 have e:=Mw d.toList i hi;have c0:=h (i*2) (by rw[size_flatK];omega);have c1:=h (i*2+1) (by rw[size_flatK];omega);have f0:=U8 d (i*2) (by omega);have f1:=U8 d (i*2+1) (by omega);rw[e.1]at f0;rw[e.2]at f1;have f0':=C9 f0;have f1':=C9 f1;have Qr:=c0.1;have c1':=c1.1;rw[Ba]at Qr c1';exact⟨Qr.trans (by rw[f0'];rfl),c1'.trans (by rw[f1'];rfl)⟩
theorem aoO(w:World)(aq off m:Nat)(dk:Array (Int×Int))(os:Array Obj):aa (fun i=>i=aq) w (sortWorldK sZ 2 w aq off m dk os):=by
 refine⟨rfl,rfl,rfl,size_sortWorldK_c sZ 2 w aq off m dk os,fun k hk hs=>?_⟩;show((putRowK sZ 2 (Sort.ahead w m) aq off dk).heap++os)[k]? =w.heap[k]?
 have aW:(putRowK sZ 2 (Sort.ahead w m) aq off dk).heap.size=w.heap.size:=by rw[size_putRowK];rfl
 rw[Array.getElem?_append_left (by omega)];show(w.heap.modify aq _)[k]? =_
 rw[Ek,if_neg (fun e=>hs e.symm)]
theorem anm{d':Array (Int×Int)}(h:PermIn 0 d.size d d'):d'.toList.Perm d.toList:=by
 have h1:=h.2.2;have h0:=h.1;rw[show d'.extract 0 d.size=d' by rw[<-h0];simp,show d.extract 0 d.size=d by simp]at h1;exact h1
theorem am9{n:Nat}(hn:n=d.size)(h:SortedIn (ltOf fun x y:Int×Int=>Lib.compareInt x.1 y.1) 0 n d):d.toList.Pairwise (fun a b=>a.1<=b.1):=by
 rw[Cj];intro i j hi hj cY;have hi':i<d.size:=by simpa using hi
 have Nb:j<d.size:=by simpa using hj
 have:=h i j (Al _) cY (by omega);rw[R5]at this;simp[hi',Nb]at this;simpa using this
theorem ahO(Bs b cap:Nat)(zs:List (Int×Int))(dc:zs.length<=100000)(w:World)(ui:Bs<w.heap.size)(hb:b<w.heap.size)
 (gV:w.cell? ⟨Bs,0,none⟩=some (.slice (some ⟨b,0,none⟩) zs.length cap))(hI:gj w b zs):
 Calls prog 171 #[.func (.func 173) #[] #[BT Bs 0]] w fun e W'=>∃v,e=.returned v/\W'.ownsRow w.heap.size 219 2 v zs.length (dj zs)/\aa ai w W':=by
 have CJ:Calls prog 188 #[.slice none 0 0,.func (.func 173) #[] #[BT Bs 0]] w fun e W'=>∃v,e=.returned v/\W'.ownsRow w.heap.size 219 2 v zs.length (dj zs)/\Below w.heap.size w W':=
  Gd.1 (agz Fence.wide 6 trivial trivial rfl (by omega) Bs b cap zs dc w ui hb gV hI)
 go_in
 go_wp2_with fail
 refine CJ.mono ?_;rintro e w1 ⟨v,rfl,hv,hB⟩;go_wp2_with fail;go_ret;exact⟨v,rfl,hv,Below.kept hB rfl⟩
theorem aoQ(Bs b cap:Nat)(zs:List (Int×Int))(dc:zs.length<=100000)(aB:zs≠ [])(w:World)(ui:Bs<w.heap.size)(hb:b<w.heap.size)
 (gV:w.cell? ⟨Bs,0,none⟩=some (.slice (some ⟨b,0,none⟩) zs.length cap))(hI:gj w b zs):
 Calls prog 145 #[.func (.func 173) #[] #[BT Bs 0],.func (.func 147) #[] #[]] w fun e w'=>∃l gb rT,e=.returned (.slice (some ⟨gb,0,none⟩) l.length rT)/\l.Perm zs/\l.Pairwise (fun a b=>a.1<=b.1)/\gj w' gb l/\w.heap.size<=gb/\gb<w'.heap.size/\aa ai w w':=by
 obtain⟨z0,zr,rfl⟩:∃z0 zr,zs=z0::zr:=List.exists_cons_of_ne_nil aB
 go_in
 go_wp2_with fail
 refine(ahO Bs b cap (z0::zr) dc w ui hb gV hI).mono ?_;rintro e w1 ⟨v,rfl,hv,aU⟩;obtain⟨g,rT,rfl⟩:=ownsRow_succ hv;have ho:=aj_ (d:=(z0::zr).toArray) (by simpa using hv);have eg:∀args w,(callFunc 147 args).run prog w=.ok (.enter 147 args) w:=enters_of func147 (by kernel_rfl) rfl
 have CJ:=AnyQ.slices_SortFunc Tryz.SP 2 isAgg219 sizeOf219 sZ (fun _=>rfl) (fun x v hv=>by simp[sZ]at hv;rcases hv with rfl|rfl<;>rfl) (fun x y=>Lib.compareInt x.1 y.1) apf 147 #[] g 0 rT (z0::zr).toArray w1 eg (ahN g 0 _ w1) ho.1 ho.2.1 (by simp at dc⊢;omega);change Calls prog 172 _ _ _ at CJ;simp only[Dm,Ax]at CJ;clear hv;go_wp2_with fail;refine CJ.mono ?_;rintro e w2 ⟨rfl,d',n,os,hp,hs,rfl⟩;go_wp2_with fail;go_ret;have xL:=anm (d:=(z0::zr).toArray) (by simpa using hp);have aW:d'.size=zr.length+1:=by have:=xL.length_eq;simpa using this
 have kk:=aoO w1 g 0 n d' os;have hH:=holdsK_sortWorldK_c sZ 2 w1 g 0 (z0::zr).toArray d' n os ho.1 ho.2.1 (by simp[aW]);refine⟨d'.toList,g,rT,by simp[aW],by simpa using xL,am9 aW.symm hs,ahx hH,ho.2.2,Ar ho.2.1 kk.size,aU.b_ kk (fun i hi he=>?_)⟩;have:=ho.2.2;omega
end Go.Proofs.YtpdnofhackjfdaaGreatDoor
namespace Go.Proofs.YtpdnofhackjfdaaGreatDoor
open Go.Proofs.Tryz
variable {d:Array (Int×Int)} {g:Nat} {w w':World}
def Xy(r:Int):List (Int×Int):=
 if r=100\/r=68 then [(48,57)]else if r=119\/r=87 then [(97,122),(65,90),(48,57),(95,95)]else [(9,10),(13,13),(32,32)]
structure TX where
 l:List (Nat×Int)
 len:Nat
def TX.aZ(x:TX)(i:Nat):Int:=((x.l.map fun p=>(p.1:Int))[i]?).getD x.len
def TX.bF(x:TX)(i:Nat):Int:=((x.l.map (·.2))[i]?).getD (-1)
def cu(sp:List (Int×Int))(r:Int):Bool:=sp.any fun p=>decide (p.1<=r)&&decide (r<=p.2)
def zz(r:Int):Bool:=(decide (97<=r)&&decide (r<=122))||(decide (65<=r)&&decide (r<=90))
def zI(r:Int):Int:=if 97<=r then r-32 else r+32
def TX.wX(x:TX)(i:Int):Bool:=decide (0<=i)&&decide (i<x.l.length)&&cu (Xy 119) (x.bF i.toNat)
