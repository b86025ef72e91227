/- Spans in memory; Go's slices -/
import Derived.Test.YtmbpfhlnifdhgaaGreatDoorP00
import Derived.Test.YtmbpfhlnifdhgaaGreatDoorP01
set_option linter.unusedVariables false
set_option linter.unusedSimpArgs false
set_option maxRecDepth 100000
set_option maxHeartbeats 2000000
namespace Go.Proofs.YtmbpfhlnifdhgaaGreatDoor
open Go.Proofs.Tryz
open Go.RowKit Go.Shelf
attribute [local go_sem] D7
variable {d:Array (Int×Int)} {fo:Bool} {gs:List Int} {ts:List Nat} {xs:List Value} {b base cap e g i n size:Nat} {S:Nat->Prop} {o:Obj} {r:Option (Nat×List Int)} {α β:Type} {v:Value} {w w' w1:World}
def JZ(x:Int×Int):Value:=.agg #[.int .i32 x.1,.int .i32 x.2]
def dF:List (Int×Int)->List Value
 | []=>[]
 |p::l=>.int .i32 p.1::.int .i32 p.2::dF l
theorem CO(l:List (Int×Int)):(dF l).length=l.length*2:=by
 induction l with
 |nil=>rfl
 |cons p l ih=>simp[dF,ih];omega
theorem Lv(l m:List (Int×Int)):dF (l++m)=dF l++dF m:=by
 induction l with
 |nil=>rfl
 |cons p l ih=>simp[dF,ih]
theorem Lw:∀(l:List (Int×Int)) (i:Nat) (h:i<l.length),(dF l)[i*2]? =some (.int .i32 (l[i]).1)/\(dF l)[i*2+1]? =some (.int .i32 (l[i]).2)
 | [],i,h=>by simp at h
 |p::l,0,_=>by simp[dF]
 |p::l,i+1,h=>by
  have:=Lw l i (by simpa using h);simp only[dF,Am];rw[show(i+1)*2=i*2+1+1 by omega,show i*2+1+1+1=(i*2+1)+1+1 by omega];simpa using this
theorem abe(l:List (Int×Int)):∀u∈dF l,u.oneCell'=true:=by
 induction l with
 |nil=>intro u h;simp[dF]at h
 |cons p l ih=>
  intro u h;simp only[dF,Bk]at h;rcases h with rfl|rfl|h
  ·rfl
  ·rfl
  ·exact ih u h
theorem vE(w:World)(cs:Array Value)(t:TypeId)(j:Nat)(u:Value)(h:cs.toList[j]? =some u):(w.alloc (.cells cs t)).cell? (Addr.add ⟨w.heap.size,0,none⟩ j)=some u:=by
 have e:Addr.add ⟨w.heap.size,0,none⟩ j=⟨w.heap.size,j,none⟩:=by
  unfold Addr.add;split
  ·rename_i hz;simp
  ·simp
 rw[e,(ay.new w cs t).cell j];simpa using h
theorem Tryz.Ju:(prog.info? 181).map (fun i=>(i.zero,i.size,i.bytes))=some (some (.agg #[.int .i32 0,.int .i32 0]),2,8):=by kernel_rfl
def gF(w:World)(b:Nat)(l:List (Int×Int)):Prop:=∀i,(h:i<l.length)->w.cell? ⟨b,i*2,none⟩=some (.int .i32 (l[i]).1)/\w.cell? ⟨b,i*2+1,none⟩=some (.int .i32 (l[i]).2)
theorem gF.kept{l:List (Int×Int)}(h:gF w b l)(k:I S w w')(hb:b<w.heap.size)(hs:¬S b):gF w' b l:=fun i hi=>
 ⟨(k.cell (p:=⟨b,i*2,none⟩) hb hs).trans (h i hi).1,(k.cell (p:=⟨b,i*2+1,none⟩) hb hs).trans (h i hi).2⟩
theorem Below.kept{B:Nat}(h:Below B w w')(hB:B=w.heap.size):I aq w w':=⟨h.os,h.tape,h.output,h.size,fun k hk _=>h.block k (by omega)⟩
theorem TF(B:Nat)(cs:Array Value)(t:TypeId):Own (fun(_:β) W=>ay W B cs t):=by
 intro s X Y row h hg hr;refine(hg.block B h.lt (fun e=>?_)).trans h;obtain⟨o,ho,hc⟩:=hr B e.symm;rw[show X.heap[B]? =_ from h]at ho;cases ho;cases hc
theorem ao6(F:Fence)(n:Nat)(h7:F.fn 156)(GM:F.round=none)(hn:1<=n)(l Bs n₀ b cap:Nat)(zs:List (Int×Int))(yr:zs.length<=100000)(hb:b<n₀)(J Jx:List (Int×Int)->World->Prop)
 (hY:∀pre x W,J pre W->pre.length<zs.length->YieldAt F (n-1) prog l #[JZ x] W fun e W'=>
   (e=.returned (.bool true)/\J (pre++[x]) W'/\Below n₀ W W')\/(e=.returned (.bool false)/\Jx (pre++[x]) W'))
 (W:World)(hn₀:n₀<=W.heap.size)(vg:W.cell? ⟨Bs,0,none⟩=some (.slice (some ⟨b,0,none⟩) zs.length cap))(hc:gF W b zs)(hJ:AbidesFrom W.heap.size J)(h0:J [] W):
 CallsIn F n prog 156 #[.func (.yield l) #[] #[],.pointer (some ⟨Bs,0,none⟩)] W fun e W'=>(∃v,e=.returned v)/\
  ((∃ys,ys=zs/\J ys W')\/(∃pre,pre<+:zs/\Jx pre W')):=by
 refine callsIn_of_wp func156 rfl h7 ?_ GM;simp only[ntmps156,C7,A1,A8,Nat.reduceAdd,Nat.reduceSub,Cz,C1,Dh,C9,Cs,Bv];gi_wp2
 gi_loopw [7] (fun i wr=>∃k:Nat,k<=zs.length/\i=.int .i64 k/\J (zs.take k) wr/\Below n₀ W wr)
  (fun i _=>zs.length-(intOf i).toNat)
 case atStart=>exact⟨0,Aw _,rfl,by simpa using h0,Er _ _⟩
 case round=>
  obtain⟨k,hk,rfl,hJs,ic⟩:=hrel;by_cases ar:k<zs.length
  ·have q0:wr.cell? ⟨b,k*2,none⟩=some (.int .i32 (zs[k]).1):=(ic.cell (p:=⟨b,k*2,none⟩) hb).trans (hc k ar).1;have q1:wr.cell? ⟨b,k*2+1,none⟩=some (.int .i32 (zs[k]).2):=(ic.cell (p:=⟨b,k*2+1,none⟩) hb).trans (hc k ar).2;have bm:=ic.size;have PI:J (zs.take k) (wr.alloc (.cells #[.int .i32 (zs[k]).1,.int .i32 (zs[k]).2] 181)):=hJ _ wr _ none hJs (World.grownBy_alloc wr _ none) (fun r e=>by cases e);obtain⟨fn,tmps,assign,body,hy,hR⟩:=hY _ (zs[k]) _ PI (by simp;omega);have rY:zs.take k++[zs[k]]=zs.take (k+1):=by rw[Eg,Ab ar];rfl
   rw[rY]at hR;simp only[JZ]at hy;have c0:=(ay.new wr #[.int .i32 (zs[k]).1,.int .i32 (zs[k]).2] 181).cell 0;have c1:=(ay.new wr #[.int .i32 (zs[k]).1,.int .i32 (zs[k]).2] 181).cell 1;gi_wp2;refine hR.mono ?_;rintro e W3 (⟨rfl,Gb,aQ⟩|⟨rfl,hJx3⟩)
   ·gi_wp2
    go_roundw
    case rel=>exact⟨k+1,by omega,by simp,Gb,(ic.alloc (by omega) _).trans aQ⟩
    case measure=>simp[intOf];omega
   ·gi_wp2
    refine Ct (results_none rfl _ _ _) rfl ?_;exact⟨⟨_,rfl⟩,.inr ⟨_,List.take_prefix _ _,hJx3⟩⟩
  ·obtain rfl:k=zs.length:=by omega
   gi_wp2
   go_end0
   exact⟨⟨_,rfl⟩,.inl ⟨_,rfl,by simpa using hJs⟩⟩
theorem apa(F:Fence)(n:Nat)(h7:F.fn 156)(GM:F.round=none)(hn:1<=n)(Bs n₀ b cap:Nat)(zs:List (Int×Int))(yr:zs.length<=100000)(w:World)(vg:Bs<w.heap.size)(hn₀:n₀<=w.heap.size)(hb:b<n₀)
 (hc:w.cell? ⟨Bs,0,none⟩=some (.slice (some ⟨b,0,none⟩) zs.length cap))(hI:gF w b zs):
 SeqStopsK F n prog 156 #[.pointer (some ⟨Bs,0,none⟩)] (fun x:Int×Int=>#[JZ x]) (Below n₀) (fun ys=>ys=zs) (fun pre=>pre<+:zs) zs.length w:=fun l J Jx W hW hJ _ hY h0=>
 ao6 F n h7 GM hn l Bs n₀ b cap zs yr hb J Jx hY W (Bf hn₀ hW.size) ((hW.cell (p:=⟨Bs,0,none⟩) vg).trans hc)
  (fun i hi=>⟨(hW.cell (p:=⟨b,i*2,none⟩) (by show b<_;omega)).trans (hI i hi).1,(hW.cell (p:=⟨b,i*2+1,none⟩) (by show b<_;omega)).trans (hI i hi).2⟩) hJ h0
theorem agd(F:Fence)(n:Nat)(h3:F.fn 161)(h5:F.fn 156)(GM:F.round=none)(hn:3<=n)(Bs b cap:Nat)(zs:List (Int×Int))(dA:zs.length<=100000)(w:World)(vg:Bs<w.heap.size)(hb:b<w.heap.size)
 (yh:w.cell? ⟨Bs,0,none⟩=some (.slice (some ⟨b,0,none⟩) zs.length cap))(hI:gF w b zs):
 CallsIn F n prog 161 #[.slice none 0 0,.func (.func 156) #[] #[.pointer (some ⟨Bs,0,none⟩)]] w fun e W'=>∃v,e=.returned v/\W'.ownsRow w.heap.size 181 2 v zs.length (dF zs)/\Below w.heap.size w W':=by
 have h1:1<=n:=by omega
 obtain⟨i0,hi,cE,cI,cH⟩:=A7 Tryz.Ju;refine callsIn_of_wp_marks func161 rfl h3 ?_ GM;simp only[ntmps161,C7,A1,A8,Nat.reduceAdd,Nat.reduceSub,Cz,C1,Dh,C9,Cs,Bv];gi_wp2;have bO:=Boxed.new w 39 (.slice none 0 0);have x7:Below w.heap.size w (w.alloc (.cells #[.slice none 0 0] 39)):=(Er _ w).alloc (Aa _) _;have ai7:(w.alloc (.cells #[.slice none 0 0] 39)).cell? ⟨Bs,0,none⟩=some (.slice (some ⟨b,0,none⟩) zs.length cap):=(x7.cell (p:=⟨Bs,0,none⟩) vg).trans yh;have hI':gF (w.alloc (.cells #[.slice none 0 0] 39)) b zs:=hI.kept ((I.refl aq w).alloc _) hb (fun hx=>hx)
 refine wpIn_rangeFunc_ownH GM h1 (gf:=156) (lb:=#[.pointer (some ⟨Bs,0,none⟩)]) rfl h5 (enters_of func156 (by kernel_rfl) rfl)
  (apa F (n-1) h5 GM (by omega) Bs w.heap.size b cap zs dA _ (by simp;omega) (by simp) hb ai7 hI') belowK_t (belowK_b (by simp)) (Er _ _) (fun _=>rfl)
  (fun pre W=>(∃v,Boxed W w.heap.size 39 v/\W.ownsRow w.heap.size 181 2 v pre.length (dF pre)/\True)/\Below w.heap.size w W)
  (fun _ _ _=>False)
  (OwnFrom.and (Own.from (holdsRow_own w.heap.size w.heap.size 39 181 2 (fun pre=>pre.length) (fun pre=>dF pre) (fun pre v=>True)) _) (ownFrom_below (Aa _) (by simp)))
  (fun _ _ _ _ _ hs _ _=>hs)
  ⟨⟨_,bO,At _ _ _ _,trivial⟩,x7⟩
  (fun x a' W=>∃Bx,w.heap.size<Bx/\ay W Bx #[.int .i32 x.1,.int .i32 x.2] 181/\a'={tmps:=#[.slice none 0 0,.func (.func 156) #[] #[.pointer (some ⟨Bs,0,none⟩)],.pointer (some ⟨w.heap.size,0,none⟩),undef,.slice none 0 0,.pointer (some ⟨Bx,0,none⟩),.func (.func 156) #[] #[.pointer (some ⟨Bs,0,none⟩)],JZ x,undef,undef,undef,undef,undef],defers:=[]})
  (fun x a' _ X Y row hs hg hr=>by obtain⟨Bx,h1,h2,h3⟩:=hs;exact⟨Bx,h1,TF Bx #[.int .i32 x.1,.int .i32 x.2] 181 () X Y row h2 hg (fun r e=>(hr r e).2),h3⟩)
  ?assign ?body ?done ?stop
 case assign=>
  rintro l pre x W K ⟨⟨v,hv,dS,_⟩,hB⟩ hK;simp only[JZ]at hK⊢;gi_wp2;exact hK _ _ ((KeepsOthers.alloc _ _).from _) ((Er _ W).alloc hB.size _) ⟨⟨v,hv.alloc _,dS.alloc _,trivial⟩,hB.alloc hB.size _⟩ ⟨W.heap.size,hv.lt,ay.new W _ _,rfl⟩
 case body=>
  rintro l pre x a' W hl ⟨r,hr⟩ ⟨⟨v,hv,dS,_⟩,hB⟩ ⟨Bx,hBx,bX,rfl⟩ ar;have hc:=hv.cell;have x0:W.cell? ⟨Bx,0,none⟩=some (.int .i32 x.1):=bX.cell 0;have x1:W.cell? ⟨Bx,1,none⟩=some (.int .i32 x.2):=bX.cell 1;simp only[JZ];gi_wp2_with (gi_at_builtin;refine wpListIn_append_own _ rfl _ _ 39 rfl w.heap.size 181 i0 (.agg #[.int .i32 0,.int .i32 0]) 2 8 underlying39 hi cE cI cH rfl (by decide) _ _ _ rfl (dS.alloc _) ⟨W.heap.size,0,none⟩ 1 1 [.int .i32 x.1,.int .i32 x.2] rfl rfl (fun j u h=>vE _ _ _ j u h) (by simp[Value.oneCell']) (by unfold maxLen;omega) (by omega) (by have:=hB.size;simp;omega) ?_;intro v' w1 bE aX _;obtain⟨g',fV,rfl⟩:=ownsRow_succ bE;obtain⟨ur,tf,kC,aG,iW⟩:=hv.appended (by decide) dS hB.size (Aa _) bE aX;have yf:=ur.cell;have rP:=ur.frozen);exact⟨aG.from _,iW,⟨⟨_,tf,by rw[Lv];simpa[dF]using kC,trivial⟩,hB.trans iW⟩⟩
 case done=>
  rintro D ys W hD rfl ⟨⟨v,hv,dS,cJ⟩,hB⟩ hK;have hc:=hv.cell;gi_wp2;refine⟨by simp,.inl ⟨_,_,rfl,run_takeDeferred hK,?_⟩⟩;exact⟨_,results_tmp rfl _ _ _,v,rfl,ownsRow_putObj dS _ hK rfl,hB.trans (belowK_b (w:=w) (Aa _) W D _ _ (by simp at hD;omega) hK rfl rfl)⟩
 case stop=>
  rintro D c pre W _ _ h _;exact h.elim
end Go.Proofs.YtmbpfhlnifdhgaaGreatDoor
namespace Go.Proofs.YtmbpfhlnifdhgaaGreatDoor
open Go.Proofs.Tryz
open Go.RowKit Go.Shelf Go.Lib Go.Sort
variable {d:Array (Int×Int)} {fo:Bool} {gs:List Int} {ts:List Nat} {xs:List Value} {b base cap e g i n size:Nat} {S:Nat->Prop} {o:Obj} {r:Option (Nat×List Int)} {α β:Type} {v:Value} {w w' w1:World}
def Tryz.anW:Go.Shelf.Ren:=⟨fun|6=>155|15=>163|14=>162|28=>172|29=>173|20=>164|21=>165|22=>166|23=>167|24=>168|25=>169|26=>170|27=>171|46=>174|47=>175|48=>176|49=>177|50=>178|57=>179|n=>n,fun|22=>39|24=>181|25=>213|3=>3|39=>170|0=>0|53=>190|55=>162|4=>4|46=>232|45=>231|50=>78|5=>5|9=>9|66=>239|70=>243|76=>245|77=>177|n=>n,fun|n=>n⟩
theorem Tryz.anV:Go.Proofs.SlLaysF0.n6 prog Tryz.anW:={
 mixed:=by kernel_rfl
 f6:=⟨Tryz.f155.name,by decide,func155.trans (congrArg some (by kernel_rfl))⟩
 f14:=⟨Tryz.f162.name,by decide,func162.trans (congrArg some (by kernel_rfl))⟩
 f15:=func163.trans (congrArg some (by kernel_rfl))
 f20:=⟨Tryz.f164.name,by decide,func164.trans (congrArg some (by kernel_rfl))⟩
 f21:=⟨Tryz.f165.name,by decide,func165.trans (congrArg some (by kernel_rfl))⟩
 f22:=⟨Tryz.f166.name,by decide,func166.trans (congrArg some (by kernel_rfl))⟩
 f23:=⟨Tryz.f167.name,by decide,func167.trans (congrArg some (by kernel_rfl))⟩
 f24:=⟨Tryz.f168.name,by decide,func168.trans (congrArg some (by kernel_rfl))⟩
 f25:=⟨Tryz.f169.name,by decide,func169.trans (congrArg some (by kernel_rfl))⟩
 f26:=⟨Tryz.f170.name,by decide,func170.trans (congrArg some (by kernel_rfl))⟩
 f27:=⟨Tryz.f171.name,by decide,func171.trans (congrArg some (by kernel_rfl))⟩
 f28:=func172.trans (congrArg some (by kernel_rfl))
 f29:=func173.trans (congrArg some (by kernel_rfl))
 f46:=⟨Tryz.f174.name,by decide,func174.trans (congrArg some (by kernel_rfl))⟩
 f47:=func175.trans (congrArg some (by kernel_rfl))
 f48:=func176.trans (congrArg some (by kernel_rfl))
 f49:=⟨Tryz.f177.name,by decide,func177.trans (congrArg some (by kernel_rfl))⟩
 f50:=⟨Tryz.f178.name,by decide,func178.trans (congrArg some (by kernel_rfl))⟩
 f57:=⟨Tryz.f179.name,by decide,func179.trans (congrArg some (by kernel_rfl))⟩
 t0:=underlying0
 a0:=isAgg0
 z0:=sizeOf0
 v0:=zeroValue0
 t3:=underlying3
 a3:=isAgg3
 z3:=sizeOf3
 v3:=zeroValue3
 t4:=underlying4
 a4:=isAgg4
 z4:=sizeOf4
 v4:=zeroValue4
 t5:=underlying5
 a5:=isAgg5
 z5:=sizeOf5
 v5:=zeroValue5
 t9:=underlying9
 a9:=isAgg9
 z9:=sizeOf9
 v9:=zeroValue9
 t22:=underlying39
 a22:=isAgg39
 z22:=sizeOf39
 v22:=zeroValue39
 t25:=underlying213
 a25:=isAgg213
 z25:=sizeOf213
 v25:=zeroValue213
 t39:=underlying170
 a39:=isAgg170
 z39:=sizeOf170
 v39:=zeroValue170
 t45:=underlying231
 a45:=isAgg231
 z45:=sizeOf231
 v45:=zeroValue231
 t46:=underlying232
 a46:=isAgg232
 z46:=sizeOf232
 v46:=zeroValue232
 t50:=underlying78
 a50:=isAgg78
 z50:=sizeOf78
 v50:=zeroValue78
 t53:=underlying190
 a53:=isAgg190
 z53:=sizeOf190
 v53:=zeroValue190
 t55:=underlying162
 a55:=isAgg162
 z55:=sizeOf162
 v55:=zeroValue162
 t66:=underlying239
 a66:=isAgg239
 z66:=sizeOf239
 v66:=zeroValue239
 t70:=underlying243
 a70:=isAgg243
 z70:=sizeOf243
 v70:=zeroValue243
 t76:=underlying245
 a76:=isAgg245
 z76:=sizeOf245
 v76:=zeroValue245
 t77:=underlying177
 a77:=isAgg177
 z77:=sizeOf177
 v77:=zeroValue177}
def tR(x:Int×Int):List Value:=[.int .i32 x.1,.int .i32 x.2]
theorem akl(x:Int)(W:World):Calls prog 157 #[.int .i32 x] W fun e w'=>e=.returned (.bool false)/\w'=W:=by
 have hb:(x !=x)=false:=by simp
 go_in
 go_wp2
 go_ret
 exact⟨by simp,rfl⟩
theorem ahE(x y:Int)(W:World):Calls prog 151 #[.int .i32 x,.int .i32 y] W fun e w'=>e=.returned (.int .i64 (Lib.compareInt x y))/\w'=W:=by
 go_in
 go_wp2_with (go_at_call 157;refine(akl _ _).mono ?_;rintro e w' ⟨rfl,rfl⟩)
 all_goals go_ret
 all_goals refine⟨?_,rfl⟩
 all_goals simp[Lib.compareInt]
 all_goals omega
theorem ahA(x y:Int×Int)(W:World):Calls prog 150 #[.agg #[.int .i32 x.1,.int .i32 x.2],.agg #[.int .i32 y.1,.int .i32 y.2]] W fun e w'=>e=.returned (.int .i64 (Lib.compareInt x.1 y.1))/\∃q os',w'=grow (W.drewN q) os':=by
 have CX:=fun W'=>ahE x.1 y.1 W'
 generalize Lib.compareInt x.1 y.1=r at CX⊢
 go_in
 go_wp2_with (go_at_call 151;refine(CX _).mono ?_;rintro e w' ⟨rfl,rfl⟩)
 go_ret
 exact⟨rfl,0,_,by rw[alloc_eq_grow,alloc_eq_grow,grow_grow];rfl⟩
theorem ahB(ae off size:Nat)(w:World):CmpLays prog 150 #[] tR 2 (fun x y=>Lib.compareInt x.1 y.1) ae off size w:=
 fun _ _ _ _ x y=>ahA x y _
theorem Ri(x y:Int×Int):ltOf (fun x y:Int×Int=>Lib.compareInt x.1 y.1) x y=decide (x.1<y.1):=by
 unfold ltOf Lib.compareInt;by_cases h1:x.1<y.1
 ·simp[h1]
 ·by_cases h2:y.1<x.1<;>simp[h1,h2]
theorem an4:SWO (ltOf fun x y:Int×Int=>Lib.compareInt x.1 y.1) where
 irrefl x:=by rw[Ri];simp
 trans x y z h1 h2:=by rw[Ri]at*;simp at*;omega
 ntrans x y z h1 h2:=by rw[Ri]at*;simp at*;omega
theorem Um(d:Array (Int×Int))(j:Nat)(h:j<d.size*2):(dF d.toList)[j]? =some (flatK tR 2 d)[j]! :=by
 rw[get_flatK _ _ _ _ h];have hj:j/2<d.toList.length:=by simp;omega
 have hg:=Lw d.toList (j/2) hj;have e1:d[j/2]! =d.toList[j/2]:=by simp at hj;simp[hj]
 rw[e1];rcases Dz j with h0|h0
 ·rw[h0,show(dF d.toList)[j]? =(dF d.toList)[j/2*2]? by congr 1;omega,hg.1];simp[tR]
 ·rw[h0,show(dF d.toList)[j]? =(dF d.toList)[j/2*2+1]? by congr 1;omega,hg.2];simp[tR]
theorem ajC(h:w.ownsRow base 181 2 (.slice (some ⟨g,0,none⟩) d.size cap) d.size (dF d.toList)):HoldsK tR 2 w g 0 d/\g<w.heap.size/\base<=g:=by
 rcases h.2 with⟨he,_⟩|⟨g',fV,aU,he,a1,a2,a3,a4,a5,a6⟩
 ·cases he
 ·cases he;refine⟨fun j hj=>?_,(Ah.1 a2).1,a1⟩
  rw[size_flatK]at hj;have hf:=Um d j hj;rw[<-a6,Al hj]at hf;constructor
  ·simp only[World.cell?,a2,Co];simpa using hf
  ·simp[World.frozen?,a2]
theorem ahj(h:HoldsK tR 2 w g 0 d):gF w g d.toList:=by
 intro i hi;have aS:i<d.size:=by simpa using hi
 have e:=Lw d.toList i hi;have c0:=h (i*2) (by rw[size_flatK];omega);have c1:=h (i*2+1) (by rw[size_flatK];omega);have f0:=Um d (i*2) (by omega);have f1:=Um d (i*2+1) (by omega);rw[e.1]at f0;rw[e.2]at f1;have f0':=Cr f0;have f1':=Cr f1;have c0':=c0.1;have c1':=c1.1;rw[Co]at c0' c1';exact⟨c0'.trans (by rw[f0'];rfl),c1'.trans (by rw[f1'];rfl)⟩
theorem anX(w:World)(ae off m:Nat)(dk:Array (Int×Int))(os:Array Obj):I (fun i=>i=ae) w (sortWorldK tR 2 w ae off m dk os):=by
 refine⟨rfl,rfl,rfl,size_sortWorldK_c tR 2 w ae off m dk os,fun k hk hs=>?_⟩;show((putRowK tR 2 (Sort.ahead w m) ae off dk).heap++os)[k]? =w.heap[k]?
 have bm:(putRowK tR 2 (Sort.ahead w m) ae off dk).heap.size=w.heap.size:=by rw[size_putRowK];rfl
 rw[Array.getElem?_append_left (by omega)];show(w.heap.modify ae _)[k]? =_
 rw[Ei,if_neg (fun e=>hs e.symm)]
theorem amu{d':Array (Int×Int)}(h:PermIn 0 d.size d d'):d'.toList.Perm d.toList:=by
 have h1:=h.2.2;have h0:=h.1;rw[show d'.extract 0 d.size=d' by rw[<-h0];simp,show d.extract 0 d.size=d by simp]at h1;exact h1
theorem amm(hn:n=d.size)(h:SortedIn (ltOf fun x y:Int×Int=>Lib.compareInt x.1 y.1) 0 n d):d.toList.Pairwise (fun a b=>a.1<=b.1):=by
 rw[D0];intro i j hi hj mx;have aS:i<d.size:=by simpa using hi
 have DC:j<d.size:=by simpa using hj
 have:=h i j (Aw _) mx (by omega);rw[Ri]at this;simp[aS,DC]at this;simpa using this
theorem ahC(Bs b cap:Nat)(zs:List (Int×Int))(dA:zs.length<=100000)(w:World)(vg:Bs<w.heap.size)(hb:b<w.heap.size)
 (yh:w.cell? ⟨Bs,0,none⟩=some (.slice (some ⟨b,0,none⟩) zs.length cap))(hI:gF w b zs):
 Calls prog 154 #[.func (.func 156) #[] #[.pointer (some ⟨Bs,0,none⟩)]] w fun e W'=>∃v,e=.returned v/\W'.ownsRow w.heap.size 181 2 v zs.length (dF zs)/\I aq w W':=by
 have CX:Calls prog 161 #[.slice none 0 0,.func (.func 156) #[] #[.pointer (some ⟨Bs,0,none⟩)]] w fun e W'=>∃v,e=.returned v/\W'.ownsRow w.heap.size 181 2 v zs.length (dF zs)/\Below w.heap.size w W':=
  Ez.1 (agd Fence.wide 6 trivial trivial rfl (by omega) Bs b cap zs dA w vg hb yh hI)
 go_in
 go_wp2_with fail
 refine CX.mono ?_;rintro e w1 ⟨v,rfl,hv,hB⟩;go_wp2_with fail;go_ret;exact⟨v,rfl,hv,Below.kept hB rfl⟩
theorem anY(Bs b cap:Nat)(zs:List (Int×Int))(dA:zs.length<=100000)(aF:zs≠ [])(w:World)(vg:Bs<w.heap.size)(hb:b<w.heap.size)
 (yh:w.cell? ⟨Bs,0,none⟩=some (.slice (some ⟨b,0,none⟩) zs.length cap))(hI:gF w b zs):
 Calls prog 148 #[.func (.func 156) #[] #[.pointer (some ⟨Bs,0,none⟩)],.func (.func 150) #[] #[]] w fun e w'=>∃l gb sN,e=.returned (.slice (some ⟨gb,0,none⟩) l.length sN)/\l.Perm zs/\l.Pairwise (fun a b=>a.1<=b.1)/\gF w' gb l/\w.heap.size<=gb/\gb<w'.heap.size/\I aq w w':=by
 obtain⟨z0,zr,rfl⟩:∃z0 zr,zs=z0::zr:=List.exists_cons_of_ne_nil aF
 go_in
 go_wp2_with fail
 refine(ahC Bs b cap (z0::zr) dA w vg hb yh hI).mono ?_;rintro e w1 ⟨v,rfl,hv,aI⟩;obtain⟨g,sN,rfl⟩:=ownsRow_succ hv;have ho:=ajC (d:=(z0::zr).toArray) (by simpa using hv);have eg:∀args w,(callFunc 150 args).run prog w=.ok (.enter 150 args) w:=enters_of func150 (by kernel_rfl) rfl
 have CX:=AnyQ.slices_SortFunc Tryz.anV 2 isAgg181 sizeOf181 tR (fun _=>rfl) (fun x v hv=>by simp[tR]at hv;rcases hv with rfl|rfl<;>rfl) (fun x y=>Lib.compareInt x.1 y.1) an4 150 #[] g 0 sN (z0::zr).toArray w1 eg (ahB g 0 _ w1) ho.1 ho.2.1 (by simp at dA⊢;omega);change Calls prog 155 _ _ _ at CX;simp only[C7,A1]at CX;clear hv;go_wp2_with fail;refine CX.mono ?_;rintro e w2 ⟨rfl,d',n,os,hp,hs,rfl⟩;go_wp2_with fail;go_ret;have yo:=amu (d:=(z0::zr).toArray) (by simpa using hp);have bm:d'.size=zr.length+1:=by have:=yo.length_eq;simpa using this
 have kk:=anX w1 g 0 n d' os;have hH:=holdsK_sortWorldK_c tR 2 w1 g 0 (z0::zr).toArray d' n os ho.1 ho.2.1 (by simp[bm]);refine⟨d'.toList,g,sN,by simp[bm],by simpa using yo,amm bm.symm hs,ahj hH,ho.2.2,A3 ho.2.1 kk.size,aI.bY kk (fun i hi he=>?_)⟩;have:=ho.2.2;omega
end Go.Proofs.YtmbpfhlnifdhgaaGreatDoor
namespace Go.Proofs.YtmbpfhlnifdhgaaGreatDoor
open Go.Proofs.Tryz
variable {d:Array (Int×Int)} {fo:Bool} {gs:List Int} {ts:List Nat} {xs:List Value} {b base cap e g i n size:Nat} {S:Nat->Prop} {o:Obj} {r:Option (Nat×List Int)} {α β:Type} {v:Value} {w w' w1:World}
def iJ:ByteArray:=⟨#[115,101,113]⟩
def iI:ByteArray:=⟨#[97,108,116]⟩
def ec:ByteArray:=⟨#[116,105,109,101,115]⟩
def eR:ByteArray:=⟨#[114,117,110,101]⟩
def pM:ByteArray:=⟨#[94]⟩
def oX:ByteArray:=⟨#[36]⟩
def od:ByteArray:=⟨#[98]⟩
def oW:ByteArray:=⟨#[66]⟩
def fi:ByteArray:=⟨#[103,114,111,117,112]⟩
def gW:ByteArray:=⟨#[98,97,114,101]⟩
inductive RT where
 |node (op:ByteArray) (sp:List (Int×Int)) (nt fd:Bool) (aJ:List RT) (bK bB aY:Int) (lz:Bool):RT
def gB(op:ByteArray)(sp:List (Int×Int))(nt fd:Bool):RT:=.node op sp nt fd [] 0 0 0 false
def iF(r:Int):List (Int×Int):=
 if r=100\/r=68 then [(48,57)]else if r=119\/r=87 then [(97,122),(65,90),(48,57),(95,95)]else [(9,10),(13,13),(32,32)]
def qY(g:RG)(st:RS):List (Int×Int):=
 if ak dC (aa g st)=true/\ak fc (aa g {st with next:=st.next+1})=true then iF (aa g {st with next:=st.next+1})
 else [((a_ g st).2,if ak qV (aa g (a_ g st).1)then(a_ g {(a_ g st).1 with next:=(a_ g st).1.next+1}).2 else(a_ g st).2)]
def oV(g:RG):Nat->RS->List (Int×Int)->List (Int×Int)
 |0,_,aA=>aA
 |m+1,st,aA=>if aa g st= -1\/ak fQ (aa g st)=true then aA else oV g m (cK g st) (aA++qY g st)
def xx(g:RG)(ax:Int)(st:RS):RT:=
 gB eR (oV g (g.rs.length+2) (bT g ij st) []) (ak ij (aa g st)) (decide (0<ax))
def qp(ax q:Int):RT:=
 if q=100\/q=119\/q=115 then gB eR (iF q) false false
 else if q=68\/q=87\/q=83 then gB eR (iF q) true false
 else if q=98 then gB od [] false false
 else if q=66 then gB oW [] false false
 else gB eR [(lr q,lr q)] false (decide (0<ax))
def AF(q:Int):RT:=if q=46 then gB eR [(10,10)] true false else if q=94 then gB pM [] false false else gB oX [] false false
def pK(g:RG)(dZ:Int->RS->RT)(ax:Int)(st:RS):RT:=
 if ak dG (aa g st)=false then .node fi [] false false [dZ ax (dy g st)] (st.aC+1) 0 0 false
 else if ak pH (aa g {st with next:=st.next+1})then .node fi [] false false [dZ ax (dy g st)] (st.aC+1) 0 0 false
 else if ak lI (aa g {st with next:=st.next+1})then .node gW [] false false [dZ (ax+1) (dy g st)] 0 0 0 false
 else .node gW [] false false [dZ ax (dy g st)] 0 0 0 false
def xw(g:RG)(dZ:Int->RS->RT)(ax:Int)(st:RS):RT:=
 if ak vC (aa g st)then pK g dZ ax {st with next:=st.next+1}
 else if ak zS (aa g st)then xx g ax {st with next:=st.next+1}
 else if ak dC (aa g st)then qp ax (aa g {st with next:=st.next+1})
 else if ak uz (aa g st)then AF (aa g st)
 else gB eR [(aa g st,aa g st)] false (decide (0<ax))
def ss(a:RT)(bB aY:Int)(lz:Bool):RT:=.node ec [] false false [a] 0 bB aY lz
def yG(g:RG)(a:RT)(st:RS):RT:=
 if ak EB (aa g st)then ss a 0 (-1) (ak dG (aa g {st with next:=st.next+1}))
 else if ak EA (aa g st)then ss a 1 (-1) (ak dG (aa g {st with next:=st.next+1}))
 else if ak dG (aa g st)then ss a 0 1 (ak dG (aa g {st with next:=st.next+1}))
 else if ak D_ (aa g st)then
  ss a (cT g {st with next:=st.next+1}).2.1 (cT g {st with next:=st.next+1}).2.2 (ak dG (aa g (cT g {st with next:=st.next+1}).1))
 else a
def vL(g:RG)(aw:RS->RS×PT)(dZ:Int->RS->RT)(ax:Int):Nat->RS->List RT->List RT
 |0,_,aA=>aA
 |m+1,st,aA=>
  if aa g st= -1\/ak jQ (aa g st)=true then aA
  else vL g aw dZ ax m (dU g (bD g aw st).2 (bD g aw st).1).1 (aA++[yG g (xw g dZ ax st) (bD g aw st).1])
def vK(g:RG)(aw:RS->RS×PT)(dZ:Int->RS->RT)(ax:Int)(st:RS):RT:=.node iJ [] false false (vL g aw dZ ax (g.rs.length+1) st []) 0 0 0 false
def vJ(g:RG)(aw:RS->RS×PT)(dZ:Int->RS->RT)(ax:Int):Nat->RS->List RT->List RT
 |0,_,aA=>aA
 |m+1,st,aA=>
  if ak lD (aa g st)then vJ g aw dZ ax m (cU g aw {st with next:=st.next+1}).1 (aA++[vK g aw dZ ax {st with next:=st.next+1}])else aA
def fe(g:RG):Nat->Int->RS->RT
 |0,_,_=>gB eR [] false false
 |k+1,ax,st=>.node iI [] false false (vJ g (aE g k) (fe g k) ax (g.rs.length+1) (cU g (aE g k) st).1 [vK g (aE g k) (fe g k) ax st]) 0 0 0 false
theorem amV(g:RG)(aw:RS->RS×PT)(dZ:Int->RS->RT)(ax:Int)(m:Nat)(st:RS)(aA:List RT)(h:aa g st= -1\/ak jQ (aa g st)=true):vL g aw dZ ax m st aA=aA:=by
 cases m with
 |zero=>rfl
 |succ m=>unfold vL;rw[if_pos h]
theorem amP(g:RG)(aw:RS->RS×PT)(dZ:Int->RS->RT)(ax:Int)(m:Nat)(st:RS)(aA:List RT)(h:ak lD (aa g st)=false):vJ g aw dZ ax m st aA=aA:=by
 cases m with
 |zero=>rfl
 |succ m=>unfold vJ;rw[if_neg (by rw[h];simp)]
def vM(g:RG)(st:RS):RT:=fe g (g.rs.length+1) 0 st
def RT.op:RT->ByteArray|.node op _ _ _ _ _ _ _ _=>op
def RT.sp:RT->List (Int×Int)|.node _ sp _ _ _ _ _ _ _=>sp
def RT.nt:RT->Bool|.node _ _ nt _ _ _ _ _ _=>nt
def RT.fd:RT->Bool|.node _ _ _ fd _ _ _ _ _=>fd
def RT.aJ:RT->List RT|.node _ _ _ _ ks _ _ _ _=>ks
def RT.bK:RT->Int|.node _ _ _ _ _ g _ _ _=>g
def RT.bB:RT->Int|.node _ _ _ _ _ _ l _ _=>l
def RT.aY:RT->Int|.node _ _ _ _ _ _ _ m _=>m
def RT.lz:RT->Bool|.node _ _ _ _ _ _ _ _ z=>z
structure CI where
 n:Option RT
 bB:Int
 aY:Int
 bK:Int
 bR:Bool
def bo(n:RT):CI:=⟨some n,n.bB,n.aY,0,false⟩
def mT(k:Int):CI:=⟨none,0,0,k,false⟩
def dN(n:RT)(c:CI):CI:=
 if 0<c.bB then⟨some n,c.bB-1,if 0<c.aY then c.aY-1 else c.aY,0,false⟩
 else if 0<c.aY then⟨some n,0,c.aY-1,0,false⟩
 else if c.bR=false then⟨some n,0,-1,0,true⟩
 else c
def cF(n:RT)(c:CI)(S:List CI):List (List CI):=
 if n.op=iJ then [n.aJ.map bo++S]
 else if n.op=iI then n.aJ.map (fun k=>bo k::S)
 else if n.op=fi then(n.aJ.take 1).map (fun k=>bo k::mT n.bK::S)
 else if n.op=gW then(n.aJ.take 1).map (fun k=>bo k::S)
 else if n.op=ec then(n.aJ.take 1).map (fun k=>bo k::dN n c::S)
 else []
structure TX where
 l:List (Nat×Int)
 len:Nat
def TX.eX(x:TX)(i:Nat):Int:=((x.l.map fun p=>(p.1:Int))[i]?).getD x.len
def TX.dd(x:TX)(i:Nat):Int:=((x.l.map (·.2))[i]?).getD (-1)
def bM(sp:List (Int×Int))(r:Int):Bool:=sp.any fun p=>decide (p.1<=r)&&decide (r<=p.2)
def n9(r:Int):Bool:=(decide (97<=r)&&decide (r<=122))||(decide (65<=r)&&decide (r<=90))
def oU(r:Int):Int:=if 97<=r then r-32 else r+32
def q8(n:RT)(r:Int):Bool:=(bM n.sp r||(n.fd&&n9 r&&bM n.sp (oU r))) !=n.nt
def TX.jY(x:TX)(i:Int):Bool:=decide (0<=i)&&decide (i<x.l.length)&&bM (iF 119) (x.dd i.toNat)
def TX.is(x:TX)(op:ByteArray)(i:Nat):Bool:=
 if op=pM then i==0 else if op=oX then i==x.l.length else if op=od then x.jY ((i:Int)-1) !=x.jY i else !(x.jY ((i:Int)-1) !=x.jY i)
def qm(x:TX)(gs:List Int)(k:Int)(i:Nat):List Int:=gs.set (gs.length/3*2+k.toNat-1) (x.eX i)
def xU(x:TX)(gs:List Int)(k:Int)(i:Nat):List Int:=
 (gs.set (2*k.toNat-2) ((gs[gs.length/3*2+k.toNat-1]?).getD 0)).set (2*k.toNat-1) (x.eX i)
def gh{α:Type}:List (Option (Option α))->Option (Option α)
 | []=>some none
 |none::_=>none
 |some (some r)::_=>some (some r)
 |some none::l=>gh l
def eo(x:TX):Nat->List CI->Nat->List Int->List Nat->Option (Option (Nat×List Int))
 |0,_,_,_,_=>none
 |_+1,[],i,gs,_=>some (some (i,gs))
 |f+1,c::S,i,gs,ts=>match c.n with
  |none=>eo x f S i (xU x gs c.bK i) ts
  |some n=>
   if n.op=eR then(if decide (i<x.l.length)&&q8 n (x.dd i)then eo x f S (i+1) gs ts else some none)
   else if n.op=ec then
    if c.bR=true/\ts.head?=some i then some none
    else
     let to0:=if c.bR then ts.tail else ts
     let more:=eo x f S i gs to0
     let inner:=gh ((cF n c S).map fun Z=>eo x f Z i gs (if c.bB<=0/\c.aY<0 then i::to0 else to0))
     if 0<c.bB then inner
     else if c.aY=0 then more
     else if n.lz then gh [more,inner]
     else gh [inner,more]
   else if n.op=iJ\/n.op=iI\/n.op=fi\/n.op=gW then
    gh ((cF n c S).map fun Z=>eo x f Z i (if n.op=fi then qm x gs n.bK i else gs) ts)
   else if x.is n.op i then eo x f S i gs ts else some none
theorem aa_{l:List β}{f h:β->Option (Option α)}(H:∀b∈l,∀r,f b=some r->h b=some r){r:Option α}(e:gh (l.map f)=some r):gh (l.map h)=some r:=by
 induction l with
 |nil=>exact e
 |cons b l ih=>
  simp only[Bt]at e⊢
  cases hf:f b with
  |none=>rw[hf]at e;simp[gh]at e
  |some q=>
   rw[hf]at e;rw[H b Aq q hf]
   cases q with
   |none=>exact ih (fun c hc=>H c (Ar _ hc)) e
   |some q=>exact e
theorem aba{a b a' b':Option (Option α)}(ha:∀r,a=some r->a'=some r)(hb:∀r,b=some r->b'=some r){r:Option α}(e:gh [a,b]=some r):gh [a',b']=some r:=by
 cases a with
 |none=>simp[gh]at e
 |some q=>
  rw[ha q rfl]
  cases q with
  |some q=>exact e
  |none=>
   cases b with
   |none=>simp[gh]at e
   |some q=>rw[hb q rfl];exact e
theorem abu(x:TX):∀(f:Nat) (S:List CI) (i:Nat) (gs:List Int) (ts:List Nat) (r:Option (Nat×List Int)),eo x f S i gs ts=some r->eo x (f+1) S i gs ts=some r
 |0,_,_,_,_,_,h=>by simp[eo]at h
 |f+1,[],i,gs,ts,r,h=>by simpa[eo]using h
 |f+1,c::S,i,gs,ts,r,h=>by
  have IH:=fun S i gs ts r=>abu x f S i gs ts r
  unfold eo at h⊢
  cases hn:c.n with
  |none=>rw[hn]at h;exact IH _ _ _ _ _ h
  |some n=>
   rw[hn]at h;simp only at h⊢;split at h
   ·rename_i h1
    rw[if_pos h1];split at h
    ·rename_i h2;rw[if_pos h2];exact IH _ _ _ _ _ h
    ·rename_i h2;rw[if_neg h2];exact h
   ·rename_i h1
    rw[if_neg h1];split at h
    ·rename_i h2
     rw[if_pos h2];split at h
     ·rename_i h3;rw[if_pos h3];exact h
     ·rename_i h3
      rw[if_neg h3]
      have cP:∀r,gh ((cF n c S).map fun Z=>eo x f Z i gs (if c.bB<=0/\c.aY<0 then i::(if c.bR then ts.tail else ts)else(if c.bR then ts.tail else ts)))=some r->gh ((cF n c S).map fun Z=>eo x (f+1) Z i gs (if c.bB<=0/\c.aY<0 then i::(if c.bR then ts.tail else ts)else(if c.bR then ts.tail else ts)))=some r:=
       fun r hr=>aa_ (fun Z _ r hz=>IH _ _ _ _ _ hz) hr
      have eZ:=(fun r=>IH S i gs (if c.bR then ts.tail else ts) r);split at h
      ·rename_i h4;rw[if_pos h4];exact cP _ h
      ·rename_i h4
       rw[if_neg h4];split at h
       ·rename_i h5;rw[if_pos h5];exact eZ _ h
       ·rename_i h5
        rw[if_neg h5];split at h
        ·rename_i h6;rw[if_pos h6];exact aba eZ cP h
        ·rename_i h6;rw[if_neg h6];exact aba cP eZ h
    ·rename_i h2
     rw[if_neg h2];split at h
     ·rename_i h3;rw[if_pos h3];exact aa_ (fun Z _ r hz=>IH _ _ _ _ _ hz) h
     ·rename_i h3
      rw[if_neg h3];split at h
      ·rename_i h4;rw[if_pos h4];exact IH _ _ _ _ _ h
      ·rename_i h4;rw[if_neg h4];exact h
theorem Pv{x:TX}{f h:Nat}(hle:f<=h){S:List CI}(e:eo x f S i gs ts=some r):eo x h S i gs ts=some r:=by
 induction hle with
 |refl=>exact e
 |step _ ih=>exact abu x _ _ _ _ _ _ ih
def cV(x:TX)(S:List CI)(i:Nat)(gs:List Int)(ts:List Nat)(r:Option (Nat×List Int)):Prop:=∃f,eo x f S i gs ts=some r
def oh(i:Nat):List Nat->List Nat->Prop
 | [],[]=>True
 |a::l,b::m=>a<=i/\b<=i/\(a=i↔b=i)/\oh i l m
 |_,_=>False
theorem oh.next:∀{l m:List Nat},oh i l m->oh (i+1) l m
 | [],[],_=>trivial
 |a::l,b::m,h=>⟨by have:=h.1;omega,by have:=h.2.1;omega,by have:=h.1;have:=h.2.1;constructor<;>intro e<;>omega,oh.next h.2.2.2⟩
 | [],_::_,h=>h.elim
 |_::_,[],h=>h.elim
theorem oh.tail:∀{l m:List Nat},oh i l m->oh i l.tail m.tail
 | [],[],_=>trivial
 |_::_,_::_,h=>h.2.2.2
 | [],_::_,h=>h.elim
 |_::_,[],h=>h.elim
theorem oh.push{l m:List Nat}(h:oh i l m):oh i (i::l) (i::m):=⟨Aa _,Aa _,Iff.rfl,h⟩
theorem oh.head:∀{l m:List Nat},oh i l m->(l.head?=some i↔m.head?=some i)
 | [],[],_=>Iff.rfl
 |a::l,b::m,h=>by simp only[List.head?_cons,Cf];exact h.2.2.1
 | [],_::_,h=>h.elim
 |_::_,[],h=>h.elim
def wh(r r':Option (Nat×List Int)):Prop:=r.map (·.1)=r'.map (·.1)
theorem wh.none(h:wh Option.none r):r=Option.none:=by
 cases r with
 |none=>rfl
 |some p=>simp[wh]at h
theorem wh.some{p:Nat×List Int}(h:wh (Option.some p) r):∃g,r=Option.some (p.1,g):=by
 cases r with
 |none=>simp[wh]at h
 |some q=>
  simp only[wh,Es,Cf]at h;exact⟨q.2,by rw[h]⟩
theorem Pm{l:List β}{f h:β->Option (Option (Nat×List Int))}(H:∀b∈l,∀r,f b=some r->∃r',h b=some r'/\wh r r')(e:gh (l.map f)=some r):∃r',gh (l.map h)=some r'/\wh r r':=by
 induction l with
 |nil=>exact⟨r,e,rfl⟩
 |cons b l ih=>
  simp only[Bt]at e⊢
  cases hf:f b with
  |none=>rw[hf]at e;simp[gh]at e
  |some q=>
   rw[hf]at e;obtain⟨q',hq,hs⟩:=H b Aq q hf;rw[hq]
   cases q with
   |none=>
    obtain rfl:=hs.none;exact ih (fun c hc=>H c (Ar _ hc)) e
   |some p=>
    obtain⟨g,rfl⟩:=hs.some;simp only[gh,Cf]at e;subst e;exact⟨_,rfl,rfl⟩
theorem abr(x:TX):∀(f:Nat) (S:List CI) (i:Nat) (gs dc:List Int) (ts gY:List Nat),oh i ts gY->∀r,eo x f S i gs ts=some r->∃r',eo x f S i dc gY=some r'/\wh r r'
 |0,_,_,_,_,_,_,_,_,h=>by simp[eo]at h
 |f+1,[],i,gs,dc,ts,gY,_,r,h=>by
  simp only[eo,Cf]at h;subst h;exact⟨_,rfl,rfl⟩
 |f+1,c::S,i,gs,dc,ts,gY,ha,r,h=>by
  have IH:=fun S i gs dc ts gY ha r=>abr x f S i gs dc ts gY ha r
  unfold eo at h⊢
  cases hn:c.n with
  |none=>rw[hn]at h;exact IH _ _ _ _ _ _ ha _ h
  |some n=>
   rw[hn]at h;simp only at h⊢;split at h
   ·rename_i h1
    rw[if_pos h1];split at h
    ·rename_i h2;rw[if_pos h2];exact IH _ _ _ _ _ _ ha.next _ h
    ·rename_i h2;rw[if_neg h2];exact⟨r,h,rfl⟩
   ·rename_i h1
    rw[if_neg h1];split at h
    ·rename_i h2
     rw[if_pos h2];split at h
     ·rename_i h3;rw[if_pos ⟨h3.1,ha.head.1 h3.2⟩];exact⟨r,h,rfl⟩
     ·rename_i h3
      rw[if_neg (fun q=>h3 ⟨q.1,ha.head.2 q.2⟩)]
      have fP:oh i (if c.bR then ts.tail else ts) (if c.bR then gY.tail else gY):=by
       split
       ·exact ha.tail
       ·exact ha
      generalize(if c.bR then ts.tail else ts)=to0 at*
      generalize(if c.bR then gY.tail else gY)=to' at*
      have cP:∀r,gh ((cF n c S).map fun Z=>eo x f Z i gs (if c.bB<=0/\c.aY<0 then i::to0 else to0))=some r->∃r',gh ((cF n c S).map fun Z=>eo x f Z i dc (if c.bB<=0/\c.aY<0 then i::to' else to'))=some r'/\wh r r':=
       fun r hr=>Pm (fun Z _ r hz=>IH _ _ _ _ _ _ (by
        split
        ·exact fP.push
        ·exact fP) _ hz) hr
      have eZ:=(fun r=>IH S i gs dc to0 to' fP r);split at h
      ·rename_i h4;rw[if_pos h4];exact cP _ h
      ·rename_i h4
       rw[if_neg h4];split at h
       ·rename_i h5;rw[if_pos h5];exact eZ _ h
       ·rename_i h5
        rw[if_neg h5];split at h
        ·rename_i h6;rw[if_pos h6]
         exact Pm (l:=[true,false]) (f:=fun b=>if b then _ else _) (h:=fun b=>if b then _ else _) (fun b _ r hb=>by cases b;exact cP r hb;exact eZ r hb) h
        ·rename_i h6;rw[if_neg h6]
         exact Pm (l:=[true,false]) (f:=fun b=>if b then _ else _) (h:=fun b=>if b then _ else _) (fun b _ r hb=>by cases b;exact eZ r hb;exact cP r hb) h
    ·rename_i h2
     rw[if_neg h2];split at h
     ·rename_i h3;rw[if_pos h3];exact Pm (fun Z _ r hz=>IH _ _ _ _ _ _ ha _ hz) h
     ·rename_i h3
      rw[if_neg h3];split at h
      ·rename_i h4;rw[if_pos h4];exact IH _ _ _ _ _ _ ha _ h
      ·rename_i h4;rw[if_neg h4];exact⟨r,h,rfl⟩
theorem cV.af9{x:TX}{S:List CI}{dc:List Int}{gY:List Nat}(h:cV x S i gs ts none)(ha:oh i ts gY):cV x S i dc gY none:=by
 obtain⟨f,e⟩:=h;obtain⟨r',e',hs⟩:=abr x f S i gs dc ts gY ha none e;obtain rfl:=hs.none;exact⟨f,e'⟩
abbrev bN:=List (Int×Int)
def qW(aA:bN)(s:Int×Int):bN:=
 match aA.getLast? with
 |some p=>if s.1<=p.2 then aA.dropLast++[(p.1,max p.2 s.2)]else aA++[s]
 |none=>[s]
def mF(l:bN):bN:=l.foldl qW []
def fZ(x:bN×Int)(t:Int×Int):bN×Int:=(if x.2<t.1 then x.1++[(x.2,t.1-1)]else x.1,t.2+1)
def AD(x:bN×Int):bN:=if x.2<=1114111 then x.1++[(x.2,1114111)]else x.1
def yD(S:bN):bN:=AD (S.foldl fZ ([],0))
def mL(aA:bN)(s:Int×Int):bN:=if max s.1 97<=min s.2 122 then aA++[(max s.1 97-32,min s.2 122-32)]else aA
def rK(aA:bN)(s:Int×Int):bN:=if max s.1 65<=min s.2 90 then aA++[(max s.1 65+32,min s.2 90+32)]else aA
def iw(aA:bN)(s:Int×Int):bN:=rK (mL aA s) s
def qC(l:bN):bN:=l.foldl iw l
def pY(S:bN):Prop:=S.Pairwise (fun a b=>a.2<b.1)/\∀s∈S,s.1<=s.2
def eh(S:bN):Prop:=∀s∈S,(-1<=s.1/\s.1<=1114111)/\(-1<=s.2/\s.2<=1114111)
theorem xe(c:Int):bM [] c=false:=rfl
theorem uw(s:Int×Int)(l:bN)(c:Int):bM (s::l) c=((decide (s.1<=c)&&decide (c<=s.2))||bM l c):=rfl
theorem zK(a b:bN)(c:Int):bM (a++b) c=(bM a c||bM b c):=by simp[bM,Cl]
theorem aj1{a b:bN}(h:a.Perm b)(c:Int):bM a c=bM b c:=by
 unfold bM;rw[Av,Cx,Cx];exact⟨fun⟨x,hx,e⟩=>⟨x,h.mem_iff.1 hx,e⟩,fun⟨x,hx,e⟩=>⟨x,h.mem_iff.2 hx,e⟩⟩
theorem Js{l:bN}{c:Int}:bM l c=true↔∃s∈l,s.1<=c/\c<=s.2:=by
 unfold bM;rw[Cx];constructor
 ·rintro⟨s,hs,h⟩;simp at h;exact⟨s,hs,h⟩
 ·rintro⟨s,hs,h⟩;exact⟨s,hs,by simp[h]⟩
theorem eh.append{a b:bN}(ha:eh a)(hb:eh b):eh (a++b):=fun s hs=>by
 rcases A2.1 hs with h|h
 ·exact ha s h
 ·exact hb s h
theorem eh.one{x y:Int}(h1: -1<=x/\x<=1114111)(h2: -1<=y/\y<=1114111):eh [(x,y)]:=fun s hs=>by
 simp at hs;subst hs;exact⟨h1,h2⟩
theorem Nh(a:bN)(p s:Int×Int):qW (a++[p]) s=if s.1<=p.2 then a++[(p.1,max p.2 s.2)]else a++[p]++[s]:=by
 unfold qW;simp[Dg]
theorem ak2(s:Int×Int):qW [] s=[s]:=rfl
theorem R9(a:bN):a=[]\/∃b p,a=b++[p]:=by
 cases h:a.reverse with
 |nil=>left;simpa using h
 |cons p r=>right;exact⟨r.reverse,p,by have:=congrArg List.reverse h;simpa using this⟩
theorem ak3{a:bN}{s:Int×Int}(ha:eh a)(hs:eh [s]):eh (qW a s):=by
 rcases R9 a with rfl|⟨b,p,rfl⟩
 ·exact hs
 ·rw[Nh];have hp:=ha p (by simp);have yt:=hs s (by simp);split
  ·refine eh.append (fun x hx=>ha x (by simp[hx])) (eh.one hp.1 ?_);omega
  ·exact ha.append hs
theorem ak1(a:bN)(s:Int×Int):(qW a s).length<=a.length+1:=by
 rcases R9 a with rfl|⟨b,p,rfl⟩
 ·simp[ak2]
 ·rw[Nh];split<;>simp
theorem ak0(l:bN)(i:Nat)(h:i<l.length):mF (l.take (i+1))=qW (mF (l.take i)) l[i]:=by
 unfold mF;rw[Eg,List.foldl_append,Ab h];rfl
theorem WR(l:bN)(h:eh l):eh (mF l)/\(mF l).length<=l.length:=by
 have:∀(l aA:bN),eh aA->eh l->eh (l.foldl qW aA)/\(l.foldl qW aA).length<=aA.length+l.length:=by
  intro l;induction l with
  |nil=>intro aA ha _;exact⟨ha,by simp⟩
  |cons s l ih=>
   intro aA ha hl;have h1:=ih (qW aA s) (ak3 ha (fun x hx=>hl x (by simp at hx;simp[hx]))) (fun x hx=>hl x (by simp[hx]));have h2:=ak1 aA s;exact⟨h1.1,by simp only[Cu,A1];omega⟩
 have:=this l [] (fun _ h=>by simp at h) h;exact⟨this.1,by show(l.foldl qW []).length<=_;simpa using this.2⟩
theorem akZ(l:bN)(hs:l.Pairwise (fun a b=>a.1<=b.1))(ho:∀s∈l,s.1<=s.2):pY (mF l)/\∀c,bM (mF l) c=bM l c:=by
 have:∀(l aA:bN),pY aA->(∀p,aA.getLast?=some p->∀s∈l,p.1<=s.1)->l.Pairwise (fun a b=>a.1<=b.1)->(∀s∈l,s.1<=s.2)->pY (l.foldl qW aA)/\∀c,bM (l.foldl qW aA) c=(bM aA c||bM l c):=by
  intro l;induction l with
  |nil=>intro aA ha _ _ _;exact⟨ha,fun c=>by simp[xe]⟩
  |cons s l ih=>
   intro aA ha hb hl ho;have ew:=ho s (by simp);have nT:=Cw.1 hl;rcases R9 aA with rfl|⟨b,p,rfl⟩
   ·have h1:=ih [s] ⟨by simp,by simpa using ew⟩ (fun q hq x hx=>by simp at hq;subst hq;exact nT.1 x hx) nT.2 (fun x hx=>ho x (by simp[hx]));refine⟨h1.1,fun c=>?_⟩;show bM (l.foldl qW [s]) c=_
    rw[h1.2,uw,uw,xe];simp
   ·have hp:=hb p (by simp[Dg]) s (by simp);have hpo:=ha.2 p (by simp);have U_:=Cm.1 ha.1;rw[Cu,Nh];by_cases hm:s.1<=p.2
    ·rw[if_pos hm]
     have ht:pY (b++[(p.1,max p.2 s.2)]):=by
      refine⟨Cm.2 ⟨U_.1,by simp,fun x hx y hy=>?_⟩,fun x hx=>?_⟩
      ·simp at hy;subst hy;exact U_.2.2 x hx p (by simp)
      ·rcases A2.1 hx with h|h
       ·exact ha.2 x (by simp[h])
       ·simp at h;subst h;simp only;omega
     have h1:=ih (b++[(p.1,max p.2 s.2)]) ht (fun q hq x hx=>by
      simp[Dg]at hq;subst hq;exact hb p (by simp[Dg]) x (by simp[hx])) nT.2 (fun x hx=>ho x (by simp[hx]))
     refine⟨h1.1,fun c=>?_⟩;rw[h1.2,zK,zK,uw,uw,uw,xe]
     cases bM b c<;>cases bM l c<;>simp
     rw[Av];simp;omega
    ·rw[if_neg hm]
     have ht:pY (b++[p]++[s]):=by
      refine⟨Cm.2 ⟨ha.1,by simp,fun x hx y hy=>?_⟩,fun x hx=>?_⟩
      ·simp at hy;subst hy
       rcases A2.1 hx with h|h
       ·have:=U_.2.2 x h p (by simp);omega
       ·simp at h;subst h;omega
      ·rcases A2.1 hx with h|h
       ·exact ha.2 x h
       ·simp at h;subst h;exact ew
     have h1:=ih (b++[p]++[s]) ht (fun q hq x hx=>by
      simp[Dg]at hq;subst hq;exact nT.1 x hx) nT.2 (fun x hx=>ho x (by simp[hx]))
     refine⟨h1.1,fun c=>?_⟩;rw[h1.2,zK,uw,uw,xe]
     cases bM (b++[p]) c<;>cases bM l c<;>simp
 have:=this l [] ⟨by simp,by simp⟩ (fun p h=>by simp at h) hs ho;exact⟨this.1,fun c=>by rw[show mF l=l.foldl qW []from rfl,this.2];simp[xe]⟩
theorem alH(l:bN)(i:Nat)(h:i<l.length):(l.take (i+1)).foldl fZ ([],0)=fZ ((l.take i).foldl fZ ([],0)) l[i]:=by
 rw[Eg,List.foldl_append,Ab h];rfl
theorem adK(l:bN)(h:eh l):eh (l.foldl fZ ([],0)).1/\(0<=(l.foldl fZ ([],0)).2/\(l.foldl fZ ([],0)).2<=1114112)/\(l.foldl fZ ([],0)).1.length<=l.length:=by
 have:∀(l:bN) (x:bN×Int),eh x.1->(0<=x.2/\x.2<=1114112)->eh l->eh (l.foldl fZ x).1/\(0<=(l.foldl fZ x).2/\(l.foldl fZ x).2<=1114112)/\(l.foldl fZ x).1.length<=x.1.length+l.length:=by
  intro l;induction l with
  |nil=>intro x h1 h2 _;exact⟨h1,h2,by simp⟩
  |cons s l ih=>
   intro x h1 h2 hl;have hs:=hl s (by simp)
   have q:=ih (fZ x s) (by
    unfold fZ;split
    ·exact h1.append (eh.one (by omega) (by omega))
    ·exact h1) (by unfold fZ;simp only;omega) (fun y hy=>hl y (by simp[hy]))
   refine⟨q.1,q.2.1,?_⟩;have h3:(fZ x s).1.length<=x.1.length+1:=by unfold fZ;split<;>simp
   simp only[Cu,A1];omega
 have:=this l ([],0) (fun _ h=>by simp at h) (by simp) h;exact⟨this.1,this.2.1,by simpa using this.2.2⟩
theorem alJ(l:bN)(h:eh l):eh (yD l)/\(yD l).length<=l.length+1:=by
 obtain⟨h1,h2,h3⟩:=adK l h;unfold yD AD;split
 ·exact⟨h1.append (eh.one (by omega) (by omega)),by simp;omega⟩
 ·exact⟨h1,by omega⟩
theorem alI(l:bN)(ht:pY l)(h0:∀s∈l,0<=s.1/\s.2<=1114111):pY (yD l)/\∀c,0<=c->c<=1114111->bM (yD l) c= !bM l c:=by
 have:∀(l:bN) (x:bN×Int),pY x.1->(∀s∈x.1,s.2<x.2)->0<=x.2->(∀s∈l,x.2<=s.1)->pY l->(∀s∈l,s.2<=1114111)->pY (AD (l.foldl fZ x))/\∀c,0<=c->c<=1114111->bM (AD (l.foldl fZ x)) c=(bM x.1 c||(decide (x.2<=c)&& !bM l c)):=by
  intro l;induction l with
  |nil=>
   intro x h1 h2 h3 _ _ _;show pY (AD x)/\∀c,0<=c->c<=1114111->bM (AD x) c=_
   unfold AD;by_cases hx:x.2<=1114111
   ·rw[if_pos hx];refine⟨⟨Cm.2 ⟨h1.1,by simp,fun a ha b hb=>?_⟩,fun a ha=>?_⟩,fun c c1 c2=>?_⟩
    ·simp at hb;subst hb;exact h2 a ha
    ·rcases A2.1 ha with h|h
     ·exact h1.2 a h
     ·simp at h;subst h;exact hx
    ·rw[zK,uw,xe];simp[c2]
   ·rw[if_neg hx];refine⟨h1,fun c c1 c2=>?_⟩;have:decide (x.2<=c)=false:=by simp;omega
    rw[this];simp
  |cons s l ih=>
   intro x h1 h2 h3 h4 h5 h6;have hs:=h4 s (by simp);have hso:=h5.2 s (by simp);have Vu:=Cw.1 h5.1
   have t1:pY (fZ x s).1:=by
    unfold fZ;simp only;split
    ·refine⟨Cm.2 ⟨h1.1,by simp,fun a ha b hb=>?_⟩,fun a ha=>?_⟩
     ·simp at hb;subst hb;exact h2 a ha
     ·rcases A2.1 ha with h|h
      ·exact h1.2 a h
      ·simp at h;subst h;simp only;omega
    ·exact h1
   have q:=ih (fZ x s) t1 (by
    unfold fZ;simp only;split
    ·intro a ha;rcases A2.1 ha with h|h
     ·have:=h2 a h;omega
     ·simp at h;subst h;simp only;omega
    ·intro a ha;have:=h2 a ha;omega) (by unfold fZ;simp only;omega) (by
    intro y hy;unfold fZ;simp only;have:=Vu.1 y hy;omega) ⟨Vu.2,fun y hy=>h5.2 y (by simp[hy])⟩ (fun y hy=>h6 y (by simp[hy]))
   refine⟨q.1,fun c c1 c2=>?_⟩;rw[Cu,q.2 c c1 c2,uw]
   have hl:bM l c=true->s.2<c:=by
    intro h;obtain⟨y,hy,hyc⟩:=Js.1 h;have:=Vu.1 y hy;omega
   unfold fZ;simp only;split
   ·rw[zK,uw,xe]
    cases Vv:bM l c
    ·cases bM x.1 c<;>simp
     rw[Av];simp;omega
    ·have:=hl Vv
     cases bM x.1 c<;>simp
     omega
   ·cases Vv:bM l c
    ·cases bM x.1 c<;>simp
     rw[Av];simp;omega
    ·have:=hl Vv
     cases bM x.1 c<;>simp
 have:=this l ([],0) ⟨by simp,by simp⟩ (by simp) (by simp) (fun s hs=>(h0 s hs).1) ht (fun s hs=>(h0 s hs).2);refine⟨this.1,fun c c1 c2=>?_⟩;unfold yD;rw[this.2 c c1 c2];simp[xe,c1]
theorem agN(l aA:bN)(i:Nat)(h:i<l.length):(l.take (i+1)).foldl iw aA=iw ((l.take i).foldl iw aA) l[i]:=by
 rw[Eg,List.foldl_append,Ab h];rfl
theorem X4(a:bN)(s:Int×Int):a.length<=(mL a s).length/\(mL a s).length<=a.length+1:=by unfold mL;split<;>simp
theorem abA(a:bN)(s:Int×Int):a.length<=(rK a s).length/\(rK a s).length<=a.length+1:=by unfold rK;split<;>simp
theorem TI(l aA:bN)(h:eh l)(ha:eh aA):eh (l.foldl iw aA)/\(l.foldl iw aA).length<=aA.length+2*l.length:=by
 induction l generalizing aA with
 |nil=>exact⟨ha,by simp⟩
 |cons s l ih=>
  have hs:=h s (by simp)
  have h1:eh (mL aA s):=by
   unfold mL;split
   ·exact ha.append (eh.one (by omega) (by omega))
   ·exact ha
  have h2:eh (iw aA s):=by
   unfold iw rK;split
   ·exact h1.append (eh.one (by omega) (by omega))
   ·exact h1
  have q:=ih (iw aA s) (fun y hy=>h y (by simp[hy])) h2;refine⟨q.1,?_⟩;have l1:=X4 aA s;have l2:(iw aA s).length<=(mL aA s).length+1:=(abA (mL aA s) s).2;simp only[Cu,A1];omega
theorem agM(a:bN)(s:Int×Int)(c:Int):bM (iw a s) c=(bM a c||(n9 c&&(decide (s.1<=oU c)&&decide (oU c<=s.2)))):=by
 have h1:bM (mL a s) c=(bM a c||(decide (65<=c)&&decide (c<=90)&&(decide (s.1<=c+32)&&decide (c+32<=s.2)))):=by
  unfold mL;split
  ·rw[zK,uw,xe]
   cases bM a c<;>simp
   rw[Av];simp;omega
  ·cases bM a c<;>simp
   omega
 have h2:bM (iw a s) c=(bM (mL a s) c||(decide (97<=c)&&decide (c<=122)&&(decide (s.1<=c-32)&&decide (c-32<=s.2)))):=by
  unfold iw rK;split
  ·rw[zK,uw,xe]
   cases bM (mL a s) c<;>simp
   rw[Av];simp;omega
  ·cases bM (mL a s) c<;>simp
   omega
 rw[h2,h1];unfold n9 oU
 cases bM a c<;>simp
 rw[Av];by_cases h:97<=c
 ·simp[h];omega
 ·simp[h]
theorem agK(l:bN)(c:Int):bM (qC l) c=(bM l c||(n9 c&&bM l (oU c))):=by
 have:∀(l aA:bN),bM (l.foldl iw aA) c=(bM aA c||(n9 c&&bM l (oU c))):=by
  intro l;induction l with
  |nil=>intro aA;simp[xe]
  |cons s l ih=>
   intro aA;rw[Cu,ih,agM,uw]
   cases bM aA c<;>cases n9 c<;>simp
 exact this l l
theorem agL(l:bN)(h:∀s∈l,0<=s.1/\s.1<=s.2/\s.2<=1114111):∀s∈qC l,0<=s.1/\s.1<=s.2/\s.2<=1114111:=by
 have:∀(l aA:bN),(∀s∈l,0<=s.1/\s.1<=s.2/\s.2<=1114111)->(∀s∈aA,0<=s.1/\s.1<=s.2/\s.2<=1114111)->∀s∈l.foldl iw aA,0<=s.1/\s.1<=s.2/\s.2<=1114111:=by
  intro l;induction l with
  |nil=>intro aA _ h;exact h
  |cons s l ih=>
   intro aA hl ha;refine ih (iw aA s) (fun y hy=>hl y (by simp[hy])) ?_
   have h1:∀y∈mL aA s,0<=y.1/\y.1<=y.2/\y.2<=1114111:=by
    unfold mL;split
    ·intro y hy;rcases A2.1 hy with h|h
     ·exact ha y h
     ·simp at h;subst h;simp only;omega
    ·exact ha
   unfold iw rK;split
   ·intro y hy;rcases A2.1 hy with h|h
    ·exact h1 y h
    ·simp at h;subst h;simp only;omega
   ·exact h1
 exact this l l h h
def wk(S sp:bN)(fo nt:Bool):Prop:=
 ∃l:bN,l.Perm (if fo then qC sp else sp)/\l.Pairwise (fun a b=>a.1<=b.1)/\S=if nt then yD (mF l)else mF l
theorem wk.anm{S sp:bN}{nt:Bool}(h:wk S sp fo nt)(hr:eh sp):eh S/\S.length<=3*sp.length+1:=by
 obtain⟨l,hp,_,rfl⟩:=h
 have hb:eh (if fo then qC sp else sp)/\(if fo then qC sp else sp).length<=3*sp.length:=by
  cases fo
  ·exact⟨hr,by simp;omega⟩
  ·have:=TI sp sp hr hr;exact⟨this.1,by show(qC sp).length<=_;unfold qC;omega⟩
 have hl:eh l:=fun s hs=>hb.1 s (hp.mem_iff.1 hs)
 have hm:=WR l hl;have rR:=hp.length_eq
 cases nt
 ·exact⟨hm.1,by simp only[Ag,if_false];omega⟩
 ·have:=alJ _ hm.1;exact⟨this.1,by simp only[if_true];omega⟩
theorem wk.has{S sp:bN}{nt:Bool}(h:wk S sp fo nt)(ho:∀s∈sp,0<=s.1/\s.1<=s.2/\s.2<=1114111):
 pY S/\∀c,0<=c->c<=1114111->bM S c=((bM sp c||(fo&&n9 c&&bM sp (oU c))) !=nt):=by
 obtain⟨l,hp,hs,rfl⟩:=h
 have hb:(∀s∈ (if fo then qC sp else sp),0<=s.1/\s.1<=s.2/\s.2<=1114111)/\∀c,bM (if fo then qC sp else sp) c=(bM sp c||(fo&&n9 c&&bM sp (oU c))):=by
  cases fo
  ·exact⟨ho,fun c=>by simp⟩
  ·exact⟨agL sp ho,fun c=>by simp[agK]⟩
 have hl:∀s∈l,0<=s.1/\s.1<=s.2/\s.2<=1114111:=fun s hs=>hb.1 s (hp.mem_iff.1 hs)
 have hm:=akZ l hs (fun s h=>(hl s h).2.1);have hc:∀c,bM (mF l) c=(bM sp c||(fo&&n9 c&&bM sp (oU c))):=fun c=>by rw[hm.2,aj1 hp,hb.2]
 cases nt
 ·exact⟨hm.1,fun c _ _=>by simp only[Ag,if_false];rw[hc];simp⟩
 ·have cP:∀s∈mF l,0<=s.1/\s.2<=1114111:=by
   intro s yt;have h1:=hm.1.2 s yt;obtain⟨y,hy,hy2⟩:=Js.1 ((hm.2 s.1).symm.trans (Js.2 ⟨s,yt,by omega⟩));obtain⟨z,hz,cH⟩:=Js.1 ((hm.2 s.2).symm.trans (Js.2 ⟨s,yt,by omega⟩));have:=hl y hy;have:=hl z hz;omega
  have:=alI _ hm.1 cP;exact⟨this.1,fun c c1 c2=>by simp only[if_true];rw[this.2 c c1 c2,hc];simp⟩
end Go.Proofs.YtmbpfhlnifdhgaaGreatDoor
namespace Go.Proofs.YtmbpfhlnifdhgaaGreatDoor
open Go.Proofs.Tryz
variable {d:Array (Int×Int)} {fo:Bool} {gs:List Int} {ts:List Nat} {xs:List Value} {b base cap e g i n size:Nat} {S:Nat->Prop} {o:Obj} {r:Option (Nat×List Int)} {α β:Type} {v:Value} {w w' w1:World}
def ux:List UInt8:=[68,87,83]
def tj:List UInt8:=[98,66]
def M9:List UInt8:=[94,36]
def Jy:List UInt8:=[46]
def k_(r:Int):bN:=if r=100 then [(48,57)]else if r=119 then [(48,57),(65,90),(95,95),(97,122)]else [(9,10),(13,13),(32,32)]
def tQ(r:Int):Int:=if r=94 then 0 else if r=36 then 1 else if r=98 then 2 else 3
inductive CT where
 |node (k:Int) (sp:bN) (fo nt:Bool) (ed gr lo hi:Int) (lz:Bool) (aJ:List CT):CT
def kM(sp:bN)(fo nt:Bool):CT:=.node 0 sp fo nt 0 0 0 0 false []
def sJ(e:Int):CT:=.node 1 [] false false e 0 0 0 false []
def gS(g:RG)(st:RS):bN:=
 if ak dC (aa g st)=true/\ak fc (aa g {st with next:=st.next+1})=true then k_ (aa g {st with next:=st.next+1})
 else [((a_ g st).2,if ak qV (aa g (a_ g st).1)then(a_ g {(a_ g st).1 with next:=(a_ g st).1.next+1}).2 else(a_ g st).2)]
def p9(g:RG):Nat->RS->bN->bN
 |0,_,aA=>aA
 |m+1,st,aA=>if aa g st= -1\/ak fQ (aa g st)=true then aA else p9 g m (cK g st) (aA++gS g st)
def Le(g:RG)(fo:Bool)(st:RS):CT:=
 kM (p9 g (g.rs.length+1) (cK g (bT g ij st)) (gS g (bT g ij st))) fo (ak ij (aa g st))
def mi(fo:Bool)(q:Int):CT:=
 if ak tj q then sJ (tQ q)
 else if ak fc q then kM (k_ q) fo false
 else if ak ux q then kM (k_ (q+32)) fo true
 else kM [(lr q,lr q)] fo false
def Is(fo:Bool)(q:Int):CT:=if ak Jy q then kM [(10,10)] fo true else sJ (tQ q)
def tO(g:RG)(bL:Bool->RS->CT)(fo:Bool)(st:RS):CT:=
 if ak dG (aa g st)=false then .node 2 [] false false 0 (st.aC+1) 0 0 false [bL fo (dy g st)]
 else if ak pH (aa g {st with next:=st.next+1})then .node 2 [] false false 0 (st.aC+1) 0 0 false [bL fo (dy g st)]
 else .node 2 [] false false 0 0 0 0 false [bL (ak lI (aa g {st with next:=st.next+1})||fo) (dy g st)]
def jL(g:RG)(bL:Bool->RS->CT)(fo:Bool)(st:RS):CT:=
 if ak vC (aa g st)then tO g bL fo {st with next:=st.next+1}
 else if ak zS (aa g st)then Le g fo {st with next:=st.next+1}
 else if ak dC (aa g st)then mi fo (aa g {st with next:=st.next+1})
 else if ak uz (aa g st)then Is fo (aa g st)
 else kM [(aa g st,aa g st)] fo false
def pj(a:CT)(lo hi:Int)(lz:Bool):CT:=.node 5 [] false false 0 0 lo hi lz [a]
def nH(g:RG)(a:CT)(st:RS):CT:=
 if ak EB (aa g st)then pj a 0 (-1) (ak dG (aa g {st with next:=st.next+1}))
 else if ak EA (aa g st)then pj a 1 (-1) (ak dG (aa g {st with next:=st.next+1}))
 else if ak dG (aa g st)then pj a 0 1 (ak dG (aa g {st with next:=st.next+1}))
 else if ak D_ (aa g st)then
  pj a (cT g {st with next:=st.next+1}).2.1 (cT g {st with next:=st.next+1}).2.2 (ak dG (aa g (cT g {st with next:=st.next+1}).1))
 else a
def lO(g:RG)(aw:RS->RS×PT)(bL:Bool->RS->CT)(fo:Bool):Nat->RS->List CT->List CT
 |0,_,aA=>aA
 |m+1,st,aA=>
  if aa g st= -1\/ak jQ (aa g st)=true then aA
  else lO g aw bL fo m (dU g (bD g aw st).2 (bD g aw st).1).1 (aA++[nH g (jL g bL fo st) (bD g aw st).1])
def nI(g:RG)(aw:RS->RS×PT)(bL:Bool->RS->CT)(fo:Bool)(st:RS):CT:=.node 3 [] false false 0 0 0 0 false (lO g aw bL fo (g.rs.length+1) st [])
def ke(g:RG)(aw:RS->RS×PT)(bL:Bool->RS->CT)(fo:Bool):Nat->RS->List CT->List CT
 |0,_,aA=>aA
 |m+1,st,aA=>
  if ak lD (aa g st)then ke g aw bL fo m (cU g aw {st with next:=st.next+1}).1 (aA++[nI g aw bL fo {st with next:=st.next+1}])else aA
def dW(g:RG):Nat->Bool->RS->CT
 |0,_,_=>kM [] false false
 |k+1,fo,st=>.node 4 [] false false 0 0 0 0 false (ke g (aE g k) (dW g k) fo (g.rs.length+1) (cU g (aE g k) st).1 [nI g (aE g k) (dW g k) fo st])
def qD(g:RG)(st:RS):CT:=dW g (g.rs.length+1) false st
theorem ahe(g:RG)(m:Nat)(st:RS)(aA:bN)(h:aa g st= -1\/ak fQ (aa g st)=true):p9 g m st aA=aA:=by
 cases m with
 |zero=>rfl
 |succ m=>unfold p9;rw[if_pos h]
theorem aav(g:RG)(aw:RS->RS×PT)(bL:Bool->RS->CT)(fo:Bool)(m:Nat)(st:RS)(aA:List CT)(h:aa g st= -1\/ak jQ (aa g st)=true):lO g aw bL fo m st aA=aA:=by
 cases m with
 |zero=>rfl
 |succ m=>unfold lO;rw[if_pos h]
theorem ahc(g:RG)(aw:RS->RS×PT)(bL:Bool->RS->CT)(fo:Bool)(m:Nat)(st:RS)(aA:List CT)(h:ak lD (aa g st)=false):ke g aw bL fo m st aA=aA:=by
 cases m with
 |zero=>rfl
 |succ m=>unfold ke;rw[if_neg (by rw[h];simp)]
theorem XZ(r:Int):eh (k_ r)/\1<=(k_ r).length/\(k_ r).length<=4:=by
 unfold k_;split
 ·exact⟨fun s h=>by simp at h;subst h;decide,by simp,by simp⟩
 ·split
  ·exact⟨fun s h=>by simp at h;rcases h with rfl|rfl|rfl|rfl<;>decide,by simp,by simp⟩
  ·exact⟨fun s h=>by simp at h;rcases h with rfl|rfl|rfl<;>decide,by simp,by simp⟩
theorem aa1{q:Int}(h: -1<=q/\q<=1114111): -1<=lr q/\lr q<=1114111:=by
 unfold lr;split
 ·omega
 ·split
  ·omega
  ·split<;>omega
theorem aeq{g:RG}(hs:∀st:RS,-1<=aa g st/\aa g st<=1114111)(esc:Bool)(st:RS): -1<=(je g esc st).2/\(je g esc st).2<=1114111:=by
 unfold je
 cases esc
 ·exact hs st
 ·exact aa1 (hs st)
theorem aar{g:RG}(hs:∀st:RS,-1<=aa g st/\aa g st<=1114111)(st:RS):eh (gS g st)/\1<=(gS g st).length/\(gS g st).length<=4:=by
 unfold gS;split
 ·exact XZ _
 ·have h1:=aeq hs (ak dC (aa g st)) (bT g dC st);refine⟨eh.one h1 ?_,by simp,by simp⟩;split
  ·exact aeq hs _ _
  ·exact h1
end Go.Proofs.YtmbpfhlnifdhgaaGreatDoor
namespace Go.Proofs.YtmbpfhlnifdhgaaGreatDoor
open Go.Proofs.Tryz
open Go.RowKit Go.Maps
variable {d:Array (Int×Int)} {fo:Bool} {gs:List Int} {ts:List Nat} {xs:List Value} {b base cap e g i n size:Nat} {S:Nat->Prop} {o:Obj} {r:Option (Nat×List Int)} {α β:Type} {v:Value} {w w' w1:World}
theorem Nw(w:World)(l:bN)(hl:l.length<=100000):(w.alloc (.cells (dF l).toArray 181)).ownsRow w.heap.size 181 2 (.slice (some ⟨w.heap.size,0,none⟩) l.length l.length) l.length (dF l):=
 ⟨CO l,Or.inr ⟨w.heap.size,l.length,(dF l).toArray,rfl,Aa _,ay.new w _ _,Aa _,by unfold maxLen;omega,by simp[CO],by simp[Cp,CO]⟩⟩
theorem XX(r:Int)(w:World):Calls prog 133 #[.int .i32 r] w fun e w'=>∃v,e=.returned v/\w'.ownsRow w.heap.size 181 2 v (k_ r).length (dF (k_ r))/\I aq w w':=by
 unfold k_;by_cases h1:r=100
 ·rw[if_pos h1];subst h1;go_in;go_wp2;go_ret;exact⟨_,rfl,Nw w [(48,57)] (by simp),(I.refl _ _).alloc _⟩
 ·rw[if_neg h1];by_cases h2:r=119
  ·rw[if_pos h2];subst h2;go_in;go_wp2;go_ret;exact⟨_,rfl,Nw w [(48,57),(65,90),(95,95),(97,122)] (by simp),(I.refl _ _).alloc _⟩
  ·rw[if_neg h2];have e1:(r==100)=false:=(by simp[h1]);have e2:(r==119)=false:=(by simp[h2]);clear h1 h2;go_in;go_wp2;go_ret;exact⟨_,rfl,Nw w [(9,10),(13,13),(32,32)] (by simp),(I.refl _ _).alloc _⟩
theorem aaR(r:Int)(w:World):Calls prog 117 #[.int .i32 r] w fun e w'=>e=.returned (.int .i64 (tQ r))/\w'=w:=by
 go_in
 go_wp2
 all_goals go_ret
 all_goals refine⟨?_,rfl⟩
 all_goals(simp only[Ai,Dm,ne_eq]at*;simp[tQ, *])
theorem aoz(r:Int)(w:World)(h:65<=r/\r<=90):Calls prog 134 #[.int .i32 r] w fun e w'=>e=.returned (.int .i32 (r+32))/\w'=w:=by
 have h1:r<=127:=by omega
 have h2:65<=r:=h.1;have h3:r<=90:=h.2;go_in;go_wp2;all_goals go_ret
 all_goals exact⟨rfl,rfl⟩
theorem CF{l:bN}(h:w.ownsRow base 181 2 v l.length (dF l))(aF:l≠ []):∃g cap,v=.slice (some ⟨g,0,none⟩) l.length cap/\base<=g/\g<w.heap.size/\gF w g l/\l.length<=cap:=by
 rcases h.2 with⟨_,h0⟩|⟨g,cap,aU,rfl,a1,a2,a3,a4,a5,a6⟩
 ·exact absurd (Az.1 h0) aF
 ·refine⟨g,cap,rfl,a1,(Ah.1 a2).1,fun i hi=>?_,a3⟩;have hf:=Lw l i hi
  have ki:∀j x,j<l.length*2->(dF l)[j]? =some x->w.cell? ⟨g,j,none⟩=some x:=by
   intro j x hj hx;rw[<-a6,Al hj]at hx;simp only[World.cell?,a2];simpa using hx
  exact⟨ki _ _ (by omega) hf.1,ki _ _ (by omega) hf.2⟩
theorem aaw{l:bN}(h:gF w b l):∀j u,(dF l)[j]? =some u->w.cell? (Addr.add ⟨b,0,none⟩ j)=some u:=by
 intro j u hj
 have e:Addr.add ⟨b,0,none⟩ j=⟨b,j,none⟩:=by
  unfold Addr.add;split
  ·rename_i hz;simp
  ·simp
 have ar:j<l.length*2:=by rw[<-CO];exact(Af.1 hj).1
 have hi:j/2<l.length:=by omega
 have hc:=h (j/2) hi;have hf:=Lw l (j/2) hi;rw[e];rcases Dz j with h0|h0
 ·have e2:j=j/2*2:=by omega
  rw[show(dF l)[j]? =(dF l)[j/2*2]? by congr 1,hf.1]at hj;rw[show w.cell? ⟨b,j,none⟩=w.cell? ⟨b,j/2*2,none⟩ by congr 2,hc.1];exact hj
 ·have e2:j=j/2*2+1:=by omega
  rw[show(dF l)[j]? =(dF l)[j/2*2+1]? by congr 1,hf.2]at hj;rw[show w.cell? ⟨b,j,none⟩=w.cell? ⟨b,j/2*2+1,none⟩ by congr 2,hc.2];exact hj
theorem ahz{l:bN}(hc:gF w b l)(hl:l.length<=100000)(hb:b<w.heap.size):
 Calls prog 147 #[.slice (some ⟨b,0,none⟩) l.length cap] w fun e w'=>∃v,e=.returned v/\w'.ownsRow w.heap.size 181 2 v l.length (dF l)/\I aq w w':=by
 obtain⟨i0,b_,cE,cI,cH⟩:=A7 Tryz.Ju;have yf:=hc.kept ((I.refl aq w).alloc (.cells (dF []).toArray 181)) hb (fun hx=>hx);have q22:∀(W:World) (n c:Nat),(binOp .eql 39 (.slice (some ⟨b,0,none⟩) n c) (.slice none 0 0)).run prog W=.ok (.bool false) W:=fun W n c=>Dc W _ _ (some ⟨b,0,none⟩) n c 0 0 underlying39
 go_in
 go_wp2_with (at_builtin;refine Ad _ rfl _ _ 39 rfl w.heap.size 181 i0 _ 2 8 underlying39 b_ cE cI cH rfl (by decide) _ 0 [] rfl (Nw w [] (by simp)) ⟨b,0,none⟩ l.length cap (dF l) rfl (CO l) (aaw yf) (abe l) ?c3 ?c4 ?c5 ?_)
 case c3=>unfold maxLen;omega
 case c4=>omega
 case c5=>simp
 intro v' w7 bE aX cJ bH;go_wp2_with fail;go_ret;refine⟨v',rfl,by simpa using bE,?_⟩;refine((I.refl aq w).alloc _).bY ((I.refl (fun i=>i=w.heap.size) _).dn aX (fun k hk=>Or.inl ?_)) (fun i hi he=>by omega);simp[Value.ownBlock]at hk;exact hk.symm
end Go.Proofs.YtmbpfhlnifdhgaaGreatDoor
namespace Go.Proofs.YtmbpfhlnifdhgaaGreatDoor
open Go.Proofs.Tryz
open Go.RowKit Go.Maps
variable {d:Array (Int×Int)} {fo:Bool} {gs:List Int} {ts:List Nat} {xs:List Value} {b base cap e g i n size:Nat} {S:Nat->Prop} {o:Obj} {r:Option (Nat×List Int)} {α β:Type} {v:Value} {w w' w1:World}
theorem RC(h:w.ownsRow base e size v n xs):∃ao cap,v=.slice ao n cap:=by
 rcases h.2 with⟨rfl,h0⟩|⟨g,cap,aU,rfl,_⟩
 ·exact⟨none,0,by rw[h0]⟩
 ·exact⟨_,cap,rfl⟩
theorem vI(h:w.ownsRow base e size v n xs)(hb:v.ownBlock=some b):base<=b/\b<w.heap.size:=by
 rcases h.2 with⟨rfl,_⟩|⟨g,cap,aU,rfl,h1,h2,_⟩
 ·simp[Value.ownBlock]at hb
 ·simp[Value.ownBlock]at hb
  subst hb;exact⟨h1,(Ah.1 h2).1⟩
theorem Hk{v':Value}{l:bN}{x:Int×Int}(a8:w'.ownsRow base 181 2 v' (l.length+1) (dF l++[.int .i32 x.1,.int .i32 x.2])):w'.ownsRow base 181 2 v' (l++[x]).length (dF (l++[x])):=by
 rw[Lv,Ao];exact a8
theorem ac1(h:w1.ownsRow base 181 2 v n xs)(hb:w.heap.size<=base)(k:I aq w w1)(hg:(w1.alloc o).grownBy w' v.ownBlock):I aq w w':=by
 have k2:I (fun i=>w.heap.size<=i) w1 w':=((I.refl _ w1).alloc o).dn hg (fun i hi=>Or.inl (by have:=(vI h hi).1;omega));exact k.bY k2 (fun i hi he=>by omega)
theorem agR(a8:w1.ownsRow base 181 2 v n xs)(cs:Array Value)(t:TypeId)(hg:((w1.alloc (.cells cs t)).alloc o).grownBy w' v.ownBlock):ay w' w1.heap.size cs t:=by
 have hb:ay ((w1.alloc (.cells cs t)).alloc o) w1.heap.size cs t:=(ay.new w1 cs t).alloc o;exact(hg.block _ hb.lt (fun e=>by have:=(vI a8 e.symm).2;omega)).trans hb
theorem alL{ao:Option Addr}{l:bN}(eu:l≠ []->ao=some ⟨b,0,none⟩)(hc:gF w b l)(hr:eh l)(hl:l.length<=90000)(hb:l≠ []->b<w.heap.size):
 Calls prog 138 #[.slice ao l.length cap] w fun e w'=>∃v,e=.returned v/\w'.ownsRow w.heap.size 181 2 v (yD l).length (dF (yD l))/\I aq w w':=by
 obtain⟨i0,b_,cE,cI,cH⟩:=A7 Tryz.Ju;unfold yD;go_in;go_wp2_with fail;go_loopg [3,4,9] l.length (fun kk v nx i wr=>∃j:Nat,j<=l.length/\i=.int .i64 j/\nx=.int .i32 ((l.take j).foldl fZ ([],0)).2/\kk=l.length-j/\wr.ownsRow w.heap.size 181 2 v ((l.take j).foldl fZ ([],0)).1.length (dF ((l.take j).foldl fZ ([],0)).1)/\I aq w wr)
 case atStart=>exact⟨0,Aw _,rfl,by simp,rfl,At _ _ _ _,I.refl _ _⟩
 case round=>
  obtain⟨j,hj,rfl,rfl,rfl,a8,hk⟩:=hrel;obtain⟨rl1,rl2,rl3⟩:=adK (l.take j) (fun s hs=>hr s (B9 hs));have I8:(l.take j).length<=l.length:=by simp;omega
  have wT:=hk.size;by_cases ar:j<l.length
  ·have aF:l≠ []:=by intro e;subst e;simp at ar
   have fg:=hb aF;have q0:wr.cell? ⟨b,j*2,none⟩=some (.int .i32 (l[j]).1):=(hk.cell (p:=⟨b,j*2,none⟩) fg (fun hx=>hx)).trans (hc j ar).1;have q1:wr.cell? ⟨b,j*2+1,none⟩=some (.int .i32 (l[j]).2):=(hk.cell (p:=⟨b,j*2+1,none⟩) fg (fun hx=>hx)).trans (hc j ar).2;have hrj:=hr l[j] (Ay ar);have nB:Hid ((l.take (j+1)).foldl fZ ([],0)=fZ ((l.take j).foldl fZ ([],0)) l[j]):=alH l j ar;have hao':=eu aF;subst hao';clear hc hr eu hb;generalize(l.take j).foldl fZ ([],0)=X at*;obtain⟨x1,x2⟩:=X;simp only at*;generalize l[j]=s at*;obtain⟨s1,s2⟩:=s;simp only at*;by_cases L5:x2<s1
   ·have cS:Hid ((l.take (j+1)).foldl fZ ([],0)=(x1++[(x2,s1-1)],s2+1)):=by show _=_;rw[nB.out];simp[fZ,L5]
    clear nB;go_wp2_with (at_builtin;refine Ad _ rfl _ _ 40 rfl w.heap.size 181 i0 _ 2 8 underlying40 b_ cE cI cH rfl (by decide) _ x1.length _ rfl ((a8.alloc _).alloc _) ⟨wr.heap.size+1,0,none⟩ 1 1 [.int .i32 x2,.int .i32 (s1-1)] rfl rfl ?c1 ?c2 ?c3 ?c4 ?c5 ?_)
    case c1=>intro j' u h;have:=vE (wr.alloc (.cells #[.int .i32 s1,.int .i32 s2] 181)) #[.int .i32 x2,.int .i32 (s1-1)] 181 j' u h;rwa[Em]at this
    case c2=>intro u hu;simp at hu;rcases hu with rfl|rfl<;>rfl
    case c3=>unfold maxLen;omega
    case c4=>omega
    case c5=>simp;omega
    intro v' w7 bE aX cJ bH;have fA:=ac1 (a8.alloc (.cells #[.int .i32 s1,.int .i32 s2] 181)) (Aa _) (hk.alloc _) aX;have rN:=agR a8 #[.int .i32 s1,.int .i32 s2] 181 aX;have hx:w7.cell? ⟨wr.heap.size,1,none⟩=some (.int .i32 s2):=rN.cell 1;have qL:=Hk (x:=(x2,s1-1)) bE;clear bE aX bH cJ a8;go_wp2_with fail;go_roundg (l.length-(j+1))
    case measure=>omega
    case rel=>exact⟨j+1,by omega,by go_num,by rw[cS.out],rfl,by rw[cS.out];exact qL,fA⟩
   ·have cS:Hid ((l.take (j+1)).foldl fZ ([],0)=(x1,s2+1)):=by show _=_;rw[nB.out];simp[fZ,L5]
    clear nB;have rN:=ay.new wr #[.int .i32 s1,.int .i32 s2] 181;have hx0:(wr.alloc (.cells #[.int .i32 s1,.int .i32 s2] 181)).cell? ⟨wr.heap.size,0,none⟩=some (.int .i32 s1):=rN.cell 0;have hx:(wr.alloc (.cells #[.int .i32 s1,.int .i32 s2] 181)).cell? ⟨wr.heap.size,1,none⟩=some (.int .i32 s2):=rN.cell 1;go_wp2_with fail;go_roundg (l.length-(j+1))
    case measure=>omega
    case rel=>exact⟨j+1,by omega,by go_num,by rw[cS.out],rfl,by rw[cS.out];exact a8.alloc _,hk.alloc _⟩
  ·have ej:j=l.length:=(by omega);subst ej;rw[Ce]at*;clear hc hr eu hb;generalize hX:l.foldl fZ ([],0)=X at*;obtain⟨x1,x2⟩:=X;have HX:Hid (l.foldl fZ ([],0)=(x1,x2)):=hX;clear hX;simp only at*;by_cases L5:x2<=1114111
   ·go_wp2_with (at_builtin;refine Ad _ rfl _ _ 40 rfl w.heap.size 181 i0 _ 2 8 underlying40 b_ cE cI cH rfl (by decide) _ x1.length _ rfl (a8.alloc _) ⟨wr.heap.size,0,none⟩ 1 1 [.int .i32 x2,.int .i32 1114111] rfl rfl ?c1 ?c2 ?c3 ?c4 ?c5 ?_)
    case c1=>intro j' u h;exact vE wr #[.int .i32 x2,.int .i32 1114111] 181 j' u h
    case c2=>intro u hu;simp at hu;rcases hu with rfl|rfl<;>rfl
    case c3=>unfold maxLen;omega
    case c4=>omega
    case c5=>simp;omega
    intro v' w7 bE aX cJ bH;have fA:=ac1 a8 (Aa _) hk aX;have qL:=Hk (x:=(x2,1114111)) bE;clear bE aX bH cJ a8;go_wp2_with fail;go_ret;refine⟨_,rfl,?_,fA⟩;rw[HX.out,show AD (x1,x2)=x1++[(x2,1114111)]from if_pos L5];exact qL
   ·go_wp2_with fail
    go_ret
    refine⟨_,rfl,?_,hk⟩;rw[HX.out,show AD (x1,x2)=x1 from if_neg (by simpa using L5)];exact a8
end Go.Proofs.YtmbpfhlnifdhgaaGreatDoor
namespace Go.Proofs.YtmbpfhlnifdhgaaGreatDoor
open Go.Proofs.Tryz
open Go.RowKit Go.Maps
variable {d:Array (Int×Int)} {fo:Bool} {gs:List Int} {ts:List Nat} {xs:List Value} {b base cap e g i n size:Nat} {S:Nat->Prop} {o:Obj} {r:Option (Nat×List Int)} {α β:Type} {v:Value} {w w' w1:World}
theorem Hj{base':Nat}(h:w.ownsRow base e size v n xs)(hb:base'<=base):w.ownsRow base' e size v n xs:=by
 obtain⟨h1,h2⟩:=h;refine⟨h1,?_⟩;rcases h2 with h2|⟨g,cap,aU,rfl,a1,r⟩
 ·exact Or.inl h2
 ·exact Or.inr ⟨g,cap,aU,rfl,by omega,r⟩
theorem Xe(h:w.ownsRow base e size v n xs)(k:I S w w')(hs:∀b,v.ownBlock=some b->¬S b):w'.ownsRow base e size v n xs:=by
 obtain⟨h1,h2⟩:=h;refine⟨h1,?_⟩;rcases h2 with h2|⟨g,cap,aU,rfl,a1,a2,r⟩
 ·exact Or.inl h2
 ·exact Or.inr ⟨g,cap,aU,rfl,a1,(k.block g (Ah.1 a2).1 (hs g rfl)).trans a2,r⟩
theorem ain(a:bN)(p:Int×Int)(m:Int):(dF (a++[p])).set (a.length*2+1) (.int .i32 m)=dF (a++[(p.1,m)]):=by
 rw[Lv,Lv];have h:(dF a).length=a.length*2:=CO a;rw[List.set_append_right _ _ (by omega),h,show a.length*2+1-a.length*2=1 by omega];rfl
theorem adL{a:bN}{p:Int×Int}(m:Int)(h:w.ownsRow base 181 2 (.slice (some ⟨g,0,none⟩) (a.length+1) cap) (a.length+1) (dF (a++[p]))):
 (w.setCell ⟨g,a.length*2+1,none⟩ (.int .i32 m)).ownsRow base 181 2 (.slice (some ⟨g,0,none⟩) (a.length+1) cap) (a.length+1) (dF (a++[(p.1,m)]))/\w.frozen? ⟨g,a.length*2+1,none⟩=false:=by
 rcases h.2 with⟨he,_⟩|⟨g',fV,aU,he,a1,a2,a3,a4,a5,a6⟩
 ·cases he
 ·cases he;refine⟨⟨by rw[CO];simp,Or.inr ⟨g,cap,aU.setIfInBounds (a.length*2+1) (.int .i32 m),rfl,a1,?_,a3,a4,by simpa using a5,?_⟩⟩,by simp[World.frozen?,a2]⟩
  ·exact ay.setCell (show ay w g aU _ from a2) _ _
  ·rw[Array.toList_setIfInBounds,<-ain,<-a6,List.take_set]
theorem MU{W:World}(h:w1.ownsRow base 181 2 v n xs)(hb:w.heap.size<=base)(k:I aq w w1)(kW:I aq w1 W)(hg:W.grownBy w' v.ownBlock):I aq w w':=by
 have k2:I (fun i=>w.heap.size<=i) w1 w':=(kW.mono (fun _ hx=>hx.elim)).dn hg (fun i hi=>Or.inl (by have:=(vI h hi).1;omega));exact k.bY k2 (fun i hi he=>by omega)
theorem ao_(ao:Option Addr)(n c:Nat)(w:World):Calls prog 149 #[.slice ao n c] w fun e w'=>e=.returned (.func (.func 156) #[] #[.pointer (some ⟨w.heap.size,0,none⟩)])/\w'=w.alloc (.cells #[.slice ao n c] 39):=by
 go_in
 go_wp2
 go_ret
 exact⟨rfl,rfl⟩
theorem adn{l:bN}(hc:gF w b l)(hr:eh l)(hl:l.length<=80000)(aF:l≠ [])(hb:b<w.heap.size):
 Calls prog 137 #[.slice (some ⟨b,0,none⟩) l.length cap] w fun e w'=>∃l' v,l'.Perm l/\l'.Pairwise (fun a b=>a.1<=b.1)/\e=.returned v/\w'.ownsRow w.heap.size 181 2 v (mF l').length (dF (mF l'))/\I aq w w':=by
 obtain⟨i0,b_,cE,cI,cH⟩:=A7 Tryz.Ju;go_in;go_wp2_with fail;refine(ao_ _ _ _ w).mono ?_;rintro e w1 ⟨rfl,rfl⟩;have yf:=hc.kept ((I.refl aq w).alloc (.cells #[.slice (some ⟨b,0,none⟩) l.length cap] 39)) hb (fun hx=>hx);have wP:I aq w (w.alloc (.cells #[.slice (some ⟨b,0,none⟩) l.length cap] 39)):=(I.refl aq w).alloc _;have rN:=(ay.new w #[.slice (some ⟨b,0,none⟩) l.length cap] 39).cell 0;go_wp2_with fail;refine(anY w.heap.size b cap l (by omega) aF _ (by simp) (by simp;omega) rN yf).mono ?_;rintro e w2 ⟨l',gb,sN,rfl,hp,hs,yh,uc,py,aG⟩;have ab0:=wP.trans aG;have oJ:=ab0.size;rw[Em]at uc;have mB:eh l':=fun s h=>hr s (hp.mem_iff.1 h)
 have rR:l'.length<=80000:=by have:=hp.length_eq;omega
 clear yf wP rN aG;go_wp2_with fail;go_loopg [4,13] l'.length (fun kk v i wr=>∃j:Nat,j<=l'.length/\i=.int .i64 j/\kk=l'.length-j/\wr.ownsRow w2.heap.size 181 2 v (mF (l'.take j)).length (dF (mF (l'.take j)))/\I aq w2 wr)
 case atStart=>exact⟨0,Aw _,rfl,rfl,At _ _ _ _,I.refl _ _⟩
 case round=>
  obtain⟨j,hj,rfl,rfl,a8,hk⟩:=hrel;obtain⟨rl1,rl2⟩:=WR (l'.take j) (fun s hs=>mB s (B9 hs));have I8:(l'.take j).length<=l'.length:=by simp;omega
  have wT:=hk.size;by_cases ar:j<l'.length
  ·have q0:wr.cell? ⟨gb,j*2,none⟩=some (.int .i32 (l'[j]).1):=(hk.cell (p:=⟨gb,j*2,none⟩) py (fun hx=>hx)).trans (yh j ar).1;have q1:wr.cell? ⟨gb,j*2+1,none⟩=some (.int .i32 (l'[j]).2):=(hk.cell (p:=⟨gb,j*2+1,none⟩) py (fun hx=>hx)).trans (yh j ar).2;have hrj:=mB l'[j] (Ay ar);have nB:Hid (mF (l'.take (j+1))=qW (mF (l'.take j)) l'[j]):=ak0 l' j ar;have HS:Hid (gF w2 gb l'/\eh l'/\l'.Perm l/\l'.Pairwise (fun a b=>a.1<=b.1)):=⟨yh,mB,hp,hs⟩;clear hc hr yh mB hp hs;generalize mF (l'.take j)=X at*;generalize l'[j]=s at*;obtain⟨s1,s2⟩:=s;simp only at*;have rN:=ay.new wr #[.int .i32 s1,.int .i32 s2] 181;have x0:(wr.alloc (.cells #[.int .i32 s1,.int .i32 s2] 181)).cell? ⟨wr.heap.size,0,none⟩=some (.int .i32 s1):=rN.cell 0;have x1:(wr.alloc (.cells #[.int .i32 s1,.int .i32 s2] 181)).cell? ⟨wr.heap.size,1,none⟩=some (.int .i32 s2):=rN.cell 1;rcases R9 X with rfl|⟨a,p,rfl⟩
   ·have cS:Hid (mF (l'.take (j+1))=[(s1,s2)]):=nB.out;clear nB;obtain⟨ao,c3,lB⟩:=RC a8;rw[lB]at a8⊢;clear lB;go_wp2_with fail;go_region;all_goals go_wp2_with (at_builtin;refine Ad _ rfl _ _ 40 rfl w2.heap.size 181 i0 _ 2 8 underlying40 b_ cE cI cH rfl (by decide) _ ([]:bN).length _ rfl ((a8.alloc (.cells #[.int .i32 s1,.int .i32 s2] 181)).alloc (.cells #[.int .i32 s1,.int .i32 s2] 181)) ⟨wr.heap.size+1,0,none⟩ 1 1 [.int .i32 s1,.int .i32 s2] rfl rfl ?c1 ?c2 ?c3 ?c4 ?c5 ?_)
    case c1=>intro j' u h;have:=vE (wr.alloc (.cells #[.int .i32 s1,.int .i32 s2] 181)) #[.int .i32 s1,.int .i32 s2] 181 j' u h;rwa[Em]at this
    case c2=>intro u hu;simp at hu;rcases hu with rfl|rfl<;>rfl
    case c3=>unfold maxLen;first|omega|(simp;done)|(simp;omega)
    case c4=>first|omega|(simp;done)|(simp;omega)
    case c5=>simp;omega
    intro v' w7 bE aX cJ bH;have fA:=MU a8 (Aa _) hk ((((I.refl aq wr).alloc (.cells #[.int .i32 s1,.int .i32 s2] 181)).alloc (.cells #[.int .i32 s1,.int .i32 s2] 181)).drew) aX;have qL:=Hk (x:=(s1,s2)) bE;clear bE aX bH cJ a8;go_wp2_with fail;go_roundg (l'.length-(j+1))
    case measure=>omega
    case rel=>exact⟨j+1,by omega,by go_num,rfl,by rw[cS.out];exact qL,fA⟩
   ·obtain⟨g,gc,lB,hg3,hg4,mr,P8⟩:=CF a8 (by simp);have Qp:(a++[p]).length=a.length+1:=(by simp);rw[Qp]at lB a8;subst lB;have p1:=(mr a.length (by simp)).2;have ep:(a++[p])[a.length]'(by simp)=p:=(by simp);rw[ep]at p1;have p1':(wr.alloc (.cells #[.int .i32 s1,.int .i32 s2] 181)).cell? ⟨g,a.length*2+1,none⟩=some (.int .i32 p.2):=(((I.refl aq wr).alloc _).cell (p:=⟨g,a.length*2+1,none⟩) hg4 (fun hx=>hx)).trans p1;clear mr p1;rw[Qp]at rl2;by_cases hm:s1<=p.2
    ·have cS:Hid (mF (l'.take (j+1))=a++[(p.1,max p.2 s2)]):=by show _=_;rw[nB.out,Nh,if_pos hm]
     clear nB;have oK:=adL (max p.2 s2) (a8.alloc (.cells #[.int .i32 s1,.int .i32 s2] 181));have f1:=oK.2;have ajJ:=((adL (max p.2 s2) a8).1).alloc (.cells #[.int .i32 s1,.int .i32 s2] 181);clear oK;go_wp2_with fail;go_region;all_goals go_wp2_with fail
     go_region
     all_goals go_wp2_with fail
     go_roundg (l'.length-(j+1))
     case measure=>omega
     case rel=>
      refine⟨j+1,by omega,by go_num,rfl,by rw[cS.out,Ao];exact ajJ,?_⟩;exact((hk.bY ((I.refl (fun i=>i=g) wr).setCell (p:=⟨g,a.length*2+1,none⟩) (Or.inl rfl) (.int .i32 (max p.2 s2))) (fun i hi he=>by omega)).alloc _).drew.drew
    ·have cS:Hid (mF (l'.take (j+1))=a++[p]++[(s1,s2)]):=by show _=_;rw[nB.out,Nh,if_neg hm]
     clear nB;go_wp2_with fail;go_region;all_goals go_wp2_with (at_builtin;refine Ad _ rfl _ _ 40 rfl w2.heap.size 181 i0 _ 2 8 underlying40 b_ cE cI cH rfl (by decide) _ (a.length+1) _ rfl ((a8.alloc (.cells #[.int .i32 s1,.int .i32 s2] 181)).alloc (.cells #[.int .i32 s1,.int .i32 s2] 181)) ⟨wr.heap.size+1,0,none⟩ 1 1 [.int .i32 s1,.int .i32 s2] rfl rfl ?c1 ?c2 ?c3 ?c4 ?c5 ?_)
     case c1=>intro j' u h;have:=vE (wr.alloc (.cells #[.int .i32 s1,.int .i32 s2] 181)) #[.int .i32 s1,.int .i32 s2] 181 j' u h;rwa[Em]at this
     case c2=>intro u hu;simp at hu;rcases hu with rfl|rfl<;>rfl
     case c3=>unfold maxLen;first|omega|(simp;done)|(simp;omega)
     case c4=>first|omega|(simp;done)|(simp;omega)
     case c5=>simp;omega
     intro v' w7 bE aX cJ bH;have fA:=MU a8 (Aa _) hk ((((I.refl aq wr).alloc (.cells #[.int .i32 s1,.int .i32 s2] 181)).alloc (.cells #[.int .i32 s1,.int .i32 s2] 181)).drew) aX;rw[<-Qp]at bE;have qL:=Hk (x:=(s1,s2)) bE;clear bE aX bH cJ a8;go_wp2_with fail;go_roundg (l'.length-(j+1))
     case measure=>omega
     case rel=>exact⟨j+1,by omega,by go_num,rfl,by rw[cS.out];exact qL,fA⟩
  ·have ej:j=l'.length:=(by omega);subst ej;rw[Ce]at*;clear hc hr;go_wp2_with fail;go_ret;exact⟨l',_,hp,hs,rfl,Hj a8 oJ,ab0.trans hk⟩
end Go.Proofs.YtmbpfhlnifdhgaaGreatDoor
namespace Go.Proofs.YtmbpfhlnifdhgaaGreatDoor
open Go.Proofs.Tryz
open Go.RowKit Go.Maps
variable {d:Array (Int×Int)} {fo:Bool} {gs:List Int} {ts:List Nat} {xs:List Value} {b base cap e g i n size:Nat} {S:Nat->Prop} {o:Obj} {r:Option (Nat×List Int)} {α β:Type} {v:Value} {w w' w1:World}
theorem agJ{l:bN}(hc:gF w b l)(hr:eh l)(hl:l.length<=20000)(aF:l≠ [])(hb:b<w.heap.size):
 Calls prog 136 #[.slice (some ⟨b,0,none⟩) l.length cap] w fun e w'=>∃v,e=.returned v/\w'.ownsRow w.heap.size 181 2 v (qC l).length (dF (qC l))/\I aq w w':=by
 obtain⟨i0,b_,cE,cI,cH⟩:=A7 Tryz.Ju;unfold qC;go_in;go_wp2_with fail;refine(ahz (cap:=cap) hc (by omega) hb).mono ?_;rintro e w1 ⟨v1,rfl,ur,aI⟩;go_wp2_with fail;go_loopg [3,12] l.length (fun kk v i wr=>∃j:Nat,j<=l.length/\i=.int .i64 j/\kk=l.length-j/\wr.ownsRow w.heap.size 181 2 v ((l.take j).foldl iw l).length (dF ((l.take j).foldl iw l))/\I aq w wr)
 case atStart=>exact⟨0,Aw _,rfl,rfl,ur,aI⟩
 case round=>
  obtain⟨j,hj,rfl,rfl,a8,hk⟩:=hrel;have dA:=(TI (l.take j) l (fun s hs=>hr s (B9 hs)) hr).2;have I8:(l.take j).length<=l.length:=by simp;omega
  have wT:=hk.size;clear ur aI;by_cases ar:j<l.length
  ·have q0:wr.cell? ⟨b,j*2,none⟩=some (.int .i32 (l[j]).1):=(hk.cell (p:=⟨b,j*2,none⟩) hb (fun hx=>hx)).trans (hc j ar).1;have q1:wr.cell? ⟨b,j*2+1,none⟩=some (.int .i32 (l[j]).2):=(hk.cell (p:=⟨b,j*2+1,none⟩) hb (fun hx=>hx)).trans (hc j ar).2;have hrj:=hr l[j] (Ay ar);have nB:Hid ((l.take (j+1)).foldl iw l=iw ((l.take j).foldl iw l) l[j]):=agN l l j ar;have HS:Hid (gF w b l/\eh l):=⟨hc,hr⟩;clear hc hr;generalize(l.take j).foldl iw l=X at*;generalize l[j]=s at*;obtain⟨s1,s2⟩:=s;simp only at*;have rN:=ay.new wr #[.int .i32 s1,.int .i32 s2] 181;have x0:(wr.alloc (.cells #[.int .i32 s1,.int .i32 s2] 181)).cell? ⟨wr.heap.size,0,none⟩=some (.int .i32 s1):=rN.cell 0;have x1:(wr.alloc (.cells #[.int .i32 s1,.int .i32 s2] 181)).cell? ⟨wr.heap.size,1,none⟩=some (.int .i32 s2):=rN.cell 1;by_cases DP:max s1 97<=min s2 122
   ·have HX:Hid (mL X (s1,s2)=X++[(max s1 97+ -32,min s2 122+ -32)]):=by show _=_;simp[mL,DP,Int.sub_eq_add_neg]
    go_wp2_with (at_builtin;refine Ad _ rfl _ _ 39 rfl w.heap.size 181 i0 _ 2 8 underlying39 b_ cE cI cH rfl (by decide) _ X.length _ rfl (((a8.alloc (.cells #[.int .i32 s1,.int .i32 s2] 181)).alloc (.cells #[.int .i32 (max s1 97),.int .i32 (min s2 122)] 181)).alloc (.cells #[.int .i32 (max s1 97+ -32),.int .i32 (min s2 122+ -32)] 181)) ⟨wr.heap.size+1+1,0,none⟩ 1 1 [.int .i32 (max s1 97+ -32),.int .i32 (min s2 122+ -32)] rfl rfl ?c1 ?c2 ?c3 ?c4 ?c5 ?_)
    case c1=>intro j' u h;have:=vE ((wr.alloc (.cells #[.int .i32 s1,.int .i32 s2] 181)).alloc (.cells #[.int .i32 (max s1 97),.int .i32 (min s2 122)] 181)) #[.int .i32 (max s1 97+ -32),.int .i32 (min s2 122+ -32)] 181 j' u h;simpa using this
    case c2=>first|exact⟨rfl,rfl⟩|(intro u hu;simp at hu;rcases hu with rfl|rfl<;>rfl)
    case c3=>unfold maxLen;omega
    case c4=>omega
    case c5=>first|omega|(simp;omega)
    intro v7 w7 bE aX cJ bH;have fA:=MU a8 (Aa _) hk ((((I.refl aq wr).alloc (.cells #[.int .i32 s1,.int .i32 s2] 181)).alloc (.cells #[.int .i32 (max s1 97),.int .i32 (min s2 122)] 181)).alloc _) aX;have zu:ay w7 wr.heap.size #[.int .i32 s1,.int .i32 s2] 181:=(aX.block _ (by simp;omega) (fun e=>by have:=(vI a8 e.symm).2;omega)).trans (((rN.alloc (.cells #[.int .i32 (max s1 97),.int .i32 (min s2 122)] 181)).alloc _));have vy:=Hk (x:=(max s1 97+ -32,min s2 122+ -32)) bE;rw[<-HX.out]at vy;have hl7:=(X4 X (s1,s2)).2;generalize hX7:mL X (s1,s2)=X7 at*;have Zo:Hid (mL X (s1,s2)=X7):=hX7;clear hX7;have y0:w7.cell? ⟨wr.heap.size,0,none⟩=some (.int .i32 s1):=zu.cell 0;have y1:w7.cell? ⟨wr.heap.size,1,none⟩=some (.int .i32 s2):=zu.cell 1;have Jn:=fA.size;clear bE aX bH cJ a8 x0 x1 rN hk;by_cases km:max s1 65<=min s2 90
    ·have HY:Hid (rK X7 (s1,s2)=X7++[(max s1 65+32,min s2 90+32)]):=by show _=_;simp[rK,km]
     go_wp2_with (at_builtin;refine Ad _ rfl _ _ 39 rfl w.heap.size 181 i0 _ 2 8 underlying39 b_ cE cI cH rfl (by decide) _ X7.length _ rfl ((vy.alloc (.cells #[.int .i32 (max s1 65),.int .i32 (min s2 90)] 181)).alloc (.cells #[.int .i32 (max s1 65+32),.int .i32 (min s2 90+32)] 181)) ⟨w7.heap.size+1,0,none⟩ 1 1 [.int .i32 (max s1 65+32),.int .i32 (min s2 90+32)] rfl rfl ?c1 ?c2 ?c3 ?c4 ?c5 ?_)
     case c1=>intro j' u h;have:=vE ((w7).alloc (.cells #[.int .i32 (max s1 65),.int .i32 (min s2 90)] 181)) #[.int .i32 (max s1 65+32),.int .i32 (min s2 90+32)] 181 j' u h;simpa using this
     case c2=>first|exact⟨rfl,rfl⟩|(intro u hu;simp at hu;rcases hu with rfl|rfl<;>rfl)
     case c3=>unfold maxLen;omega
     case c4=>omega
     case c5=>first|omega|(simp;omega)
     intro v8 w8 bE aX cJ bH;have ly:=MU (vy) (Aa _) (fA) (((I.refl aq _).alloc (.cells #[.int .i32 (max s1 65),.int .i32 (min s2 90)] 181)).alloc _) aX;have Mw:=Hk (x:=(max s1 65+32,min s2 90+32)) bE;rw[<-HY.out]at Mw;clear bE aX bH cJ;go_wp2_with fail;go_roundg (l.length-(j+1))
     case measure=>omega
     case rel=>exact⟨j+1,by omega,by go_num,rfl,by rw[nB.out,iw,Zo.out];exact Mw,ly⟩
    ·have HY:Hid (rK X7 (s1,s2)=X7):=by show _=_;simp[rK,km]
     go_wp2_with fail
     go_roundg (l.length-(j+1))
     case measure=>omega
     case rel=>exact⟨j+1,by omega,by go_num,rfl,by rw[nB.out,iw,Zo.out,HY.out];exact vy.alloc _,(fA).alloc _⟩
   ·have HX:Hid (mL X (s1,s2)=X):=by show _=_;simp[mL,DP]
    have vy:=(a8.alloc (.cells #[.int .i32 s1,.int .i32 s2] 181)).alloc (.cells #[.int .i32 (max s1 97),.int .i32 (min s2 122)] 181);have fA:=(hk.alloc (.cells #[.int .i32 s1,.int .i32 s2] 181)).alloc (.cells #[.int .i32 (max s1 97),.int .i32 (min s2 122)] 181);by_cases km:max s1 65<=min s2 90
    ·have HY:Hid (rK X (s1,s2)=X++[(max s1 65+32,min s2 90+32)]):=by show _=_;simp[rK,km]
     go_wp2_with (at_builtin;refine Ad _ rfl _ _ 39 rfl w.heap.size 181 i0 _ 2 8 underlying39 b_ cE cI cH rfl (by decide) _ X.length _ rfl ((vy.alloc (.cells #[.int .i32 (max s1 65),.int .i32 (min s2 90)] 181)).alloc (.cells #[.int .i32 (max s1 65+32),.int .i32 (min s2 90+32)] 181)) ⟨wr.heap.size+1+1+1,0,none⟩ 1 1 [.int .i32 (max s1 65+32),.int .i32 (min s2 90+32)] rfl rfl ?c1 ?c2 ?c3 ?c4 ?c5 ?_)
     try(case c1=>intro j' u h;have:=vE (((wr.alloc (.cells #[.int .i32 s1,.int .i32 s2] 181)).alloc (.cells #[.int .i32 (max s1 97),.int .i32 (min s2 122)] 181)).alloc (.cells #[.int .i32 (max s1 65),.int .i32 (min s2 90)] 181)) #[.int .i32 (max s1 65+32),.int .i32 (min s2 90+32)] 181 j' u h;simpa using this)
     case c2=>first|exact⟨rfl,rfl⟩|(intro u hu;simp at hu;rcases hu with rfl|rfl<;>rfl)
     case c3=>unfold maxLen;omega
     case c4=>omega
     case c5=>first|omega|(simp;omega)
     intro v8 w8 bE aX cJ bH;have ly:=MU (vy) (Aa _) (fA) (((I.refl aq _).alloc (.cells #[.int .i32 (max s1 65),.int .i32 (min s2 90)] 181)).alloc _) aX;have Mw:=Hk (x:=(max s1 65+32,min s2 90+32)) bE;rw[<-HY.out]at Mw;clear bE aX bH cJ;go_wp2_with fail;go_roundg (l.length-(j+1))
     case measure=>omega
     case rel=>exact⟨j+1,by omega,by go_num,rfl,by rw[nB.out,iw,HX.out];exact Mw,ly⟩
    ·have HY:Hid (rK X (s1,s2)=X):=by show _=_;simp[rK,km]
     go_wp2_with fail
     go_roundg (l.length-(j+1))
     case measure=>omega
     case rel=>exact⟨j+1,by omega,by go_num,rfl,by rw[nB.out,iw,HX.out,HY.out];exact vy.alloc _,(fA).alloc _⟩
  ·have ej:j=l.length:=(by omega);subst ej;rw[Ce]at*;clear hc hr;go_wp2_with fail;go_ret;exact⟨_,rfl,a8,hk⟩
end Go.Proofs.YtmbpfhlnifdhgaaGreatDoor
