/- The library's co -/
import Derived.Test.YtpdnofhackjfdaaGreatDoorP09
set_option linter.all false
set_option maxRecDepth 100000
namespace Go.Proofs.YtpdnofhackjfdaaGreatDoor
open Go.Proofs.Tryz
open Go.Shelf Go.RowKit Go.Lib Go.Sort
def Tryz.akD:Go.Shelf.Ren:=⟨fun|316=>118|n=>n,fun|9=>9|3=>3|4=>4|37=>42|0=>0|127=>239|5=>5|n=>n,fun|n=>n⟩
theorem Tryz.akC:Go.Proofs.LaysM.n316 prog Tryz.akD:={
 mixed:=by kernel_rfl
 f316:=func118.trans (congrArg some (by kernel_rfl))
 t0:=underlying0
 a0:=isAgg0
 z0:=sizeOf0
 v0:=zeroValue0
 t3:=underlying3
 a3:=isAgg3
 z3:=sizeOf3
 v3:=zeroValue3
 t4:=underlying4
 a4:=isAgg4
 z4:=sizeOf4
 v4:=zeroValue4
 t9:=underlying9
 a9:=isAgg9
 z9:=sizeOf9
 v9:=zeroValue9
 t37:=underlying42
 a37:=isAgg42
 z37:=sizeOf42
 v37:=zeroValue42
 t127:=underlying239
 a127:=isAgg239
 z127:=sizeOf239
 v127:=zeroValue239
 t5:=underlying5
 a5:=isAgg5
 z5:=sizeOf5
 v5:=zeroValue5
 i0:=by kernel_rfl
 i3:=by kernel_rfl
 i4:=by kernel_rfl
 i5:=by kernel_rfl
 i9:=by kernel_rfl
 i37:=by kernel_rfl
 i127:=by kernel_rfl}
def Tryz.akB:Go.Shelf.Ren:=⟨fun|212=>117|263=>143|264=>144|n=>n,fun|46=>197|51=>234|146=>235|53=>207|148=>237|n=>n,fun|n=>n⟩
theorem Tryz.akA:Go.Proofs.Lays.n212 prog Tryz.akB:={
 mixed:=by kernel_rfl
 f212:=func117.trans (congrArg some (by kernel_rfl))
 f263:=func143.trans (congrArg some (by kernel_rfl))
 f264:=func144.trans (congrArg some (by kernel_rfl))
 t46:=underlying197
 a46:=isAgg197
 z46:=sizeOf197
 v46:=zeroValue197
 t51:=underlying234
 a51:=isAgg234
 z51:=sizeOf234
 v51:=zeroValue234
 t53:=underlying207
 a53:=isAgg207
 z53:=sizeOf207
 v53:=zeroValue207
 t146:=underlying235
 a146:=isAgg235
 z146:=sizeOf235
 v146:=zeroValue235
 t148:=underlying237
 a148:=isAgg237
 z148:=sizeOf237
 v148:=zeroValue237}
def Tryz.acz:Go.Shelf.Ren:=⟨fun|271=>138|120=>160|197=>91|260=>116|n=>n,fun|9=>9|21=>21|3=>3|4=>4|5=>5|105=>176|119=>193|0=>0|46=>197|139=>196|138=>195|n=>n,fun|3=>0|4=>1|n=>n⟩
theorem Tryz.V_:Go.Proofs.Lays.n271 prog Tryz.acz:={
 mixed:=by kernel_rfl
 f120:=func160.trans (congrArg some (by kernel_rfl))
 f197:=func91.trans (congrArg some (by kernel_rfl))
 f260:=func116.trans (congrArg some (by kernel_rfl))
 f271:=func138.trans (congrArg some (by kernel_rfl))
 t0:=underlying0
 a0:=isAgg0
 z0:=sizeOf0
 v0:=zeroValue0
 t3:=underlying3
 a3:=isAgg3
 z3:=sizeOf3
 v3:=zeroValue3
 t4:=underlying4
 a4:=isAgg4
 z4:=sizeOf4
 v4:=zeroValue4
 t5:=underlying5
 a5:=isAgg5
 z5:=sizeOf5
 v5:=zeroValue5
 t9:=underlying9
 a9:=isAgg9
 z9:=sizeOf9
 v9:=zeroValue9
 t21:=underlying21
 a21:=isAgg21
 z21:=sizeOf21
 v21:=zeroValue21
 t46:=underlying197
 a46:=isAgg197
 z46:=sizeOf197
 v46:=zeroValue197
 t105:=underlying176
 a105:=isAgg176
 z105:=sizeOf176
 v105:=zeroValue176
 t119:=underlying193
 a119:=isAgg193
 z119:=sizeOf193
 t138:=underlying195
 a138:=isAgg195
 z138:=sizeOf195
 v138:=zeroValue195
 t139:=underlying196
 a139:=isAgg196
 z139:=sizeOf196
 v139:=zeroValue196
 g3:=by kernel_rfl
 g4:=by kernel_rfl}
def Tryz.anU:Go.Shelf.Ren:=⟨fun|16=>139|n=>n,fun|3=>3|35=>175|4=>4|38=>197|n=>n,fun|n=>n⟩
theorem Tryz.aeo:Go.Proofs.SlLaysO.n16 prog Tryz.anU:={
 mixed:=by kernel_rfl
 f16:=func139.trans (congrArg some (by kernel_rfl))
 t3:=underlying3
 a3:=isAgg3
 z3:=sizeOf3
 v3:=zeroValue3
 t4:=underlying4
 a4:=isAgg4
 z4:=sizeOf4
 v4:=zeroValue4
 t35:=underlying175
 a35:=isAgg175
 z35:=sizeOf175
 v35:=zeroValue175
 t38:=underlying197
 a38:=isAgg197
 z38:=sizeOf197
 v38:=zeroValue197}
theorem CE{w w':World}(h:Go.RowKit.Below w.heap.size w w'):aa af w w':=⟨h.os,h.tape,h.output,h.size,fun k hk _=>h.block k hk⟩
def jf(w:World):Prop:=Lib.Utf8Tabs 0 1 w
theorem aao(s:ByteArray)(w:World)(hT:jf w):Calls prog 91 #[.string s] w fun e w'=>e=.returned (.tuple #[.int .i32 (Lib.decodeGo s).1,.int .i64 (Lib.decodeGo s).2])/\aa af w w':=by
 refine(Any.utf8_DecodeRuneInString {Tryz.V_ with} s w hT).mono ?_;rintro e w' ⟨h1,h2⟩;exact⟨h1,CE h2⟩
theorem ahh(s:ByteArray)(w:World)(hs:s.size<=9223372036854775807)(hT:jf w):Calls prog 138 #[.string s] w fun e w'=>e=.returned (.tuple #[.int .i32 (Lib.decodeLastL s.data.toList).1,.int .i64 (Lib.decodeLastL s.data.toList).2])/\aa af w w':=by
 refine(Any.utf8_DecodeLastRuneInString Tryz.V_ s w hs hT).mono ?_;rintro e w' ⟨h1,h2⟩;exact⟨h1,CE h2⟩
theorem agU(s:ByteArray)(w:World)(hs:s.size<=281474976710656):Calls prog 118 #[.string s] w fun e w'=>e=.returned (.string s)/\aa af w w':=by
 refine(Any.stringslite_Clone Tryz.akC s w hs).mono ?_;rintro e w' ⟨h1,h2⟩;exact⟨h1,CE h2⟩
theorem alf(x y:Nat)(hx:x<18446744073709551616)(hy:y<18446744073709551616)(w:World):
 Calls prog 117 #[.int .u64 x,.int .u64 y] w fun e w'=>e=.returned (.tuple #[.int .u64 ((x*y/18446744073709551616:Nat):Int),.int .u64 ((x*y % 18446744073709551616:Nat):Int)])/\w'=w:=Any.bits_Mul Tryz.akA x y hx hy w
theorem jf.kept{w w':World}{S:Nat->Prop}(h:jf w)(k:aa S w w')(h3:¬S 0)(h4:¬S 1):jf w':=by
 have key:∀{a:Addr} {v:Value},¬S a.block->w.cell? a=some v->w'.cell? a=some v:=fun{a v} ha hc=>(k.cell (Bk _ _ hc) ha).trans hc
 exact⟨fun c hc=>key h3 (h.1 c hc),fun i hi=>⟨key h4 (h.2 i hi).1,key h4 (h.2 i hi).2⟩⟩
theorem jf.jZ{w w':World}(h:jf w)(k:aa af w w'):jf w':=h.kept k (fun h=>h) (fun h=>h)
abbrev aH:=Nat->List Int->Option (Nat×List Int)
def fT:aH:=fun _ _=>none
def g_(a b:aH):aH:=fun i gs=>match a i gs with
 |some v=>some v
 |none=>b i gs
def ou(a b:aH×aH):aH×aH:=(g_ a.1 b.1,g_ a.2 b.2)
def qq(lz:Bool)(part rest:aH×aH):aH×aH:=if lz then ou rest part else ou part rest
def eV(sp:bF)(fo nt:Bool)(c:Int):Bool:=(bV sp c||(fo&&yI c&&bV sp (yS c))) !=nt
def EO(x:TX)(ed:Int)(i:Nat):Bool:=
 if ed=0 then i==0 else if ed=1 then i==x.l.length else if ed=2 then x.wm ((i:Int)-1) !=x.wm i else !(x.wm ((i:Int)-1) !=x.wm i)
def qW(x:TX)(sp:bF)(fo nt:Bool)(k:aH):aH:=fun i gs=>if decide (i<x.l.length)&&eV sp fo nt (x.bl i)then k (i+1) gs else none
def zc(x:TX)(ed:Int)(k:aH):aH:=fun i gs=>if EO x ed i then k i gs else none
def yM(x:TX)(slot:Nat)(k:aH):aH:=fun i gs=>k i (gs.set slot (x.aY i))
def NH(x:TX)(ed:Int)(p:aH×aH):aH×aH:=(zc x ed p.1,zc x ed p.2)
def Hb(x:TX)(slot:Nat)(p:aH×aH):aH×aH:=(yM x slot p.1,yM x slot p.2)
def oF(f:aH×aH->aH×aH):Nat->aH×aH->aH×aH
 |0,p=>p
 |n+1,p=>f (oF f n p)
def ju(part:aH×aH->aH×aH)(lz:Bool)(rest:aH):Nat->aH
 |0=>fT
 |n+1=>if lz then g_ rest (part (fT,ju part lz rest n)).1 else g_ (part (fT,ju part lz rest n)).1 rest
def uu(x:TX)(part:aH×aH->aH×aH)(lz:Bool)(nx:aH×aH):aH×aH:=
 qq lz ((part (fT,ju part lz nx.2 (x.l.length+1))).1,(part (fT,ju part lz nx.2 (x.l.length+1))).1) nx
def yQ(part:aH×aH->aH×aH)(lz:Bool)(nx:aH×aH):aH×aH->aH×aH:=fun all=>qq lz (part all) nx
def zh(x:TX)(part:aH×aH->aH×aH)(lo hi:Int)(lz:Bool)(nx:aH×aH):aH×aH:=
 oF part lo.toNat (if hi= -1 then uu x part lz nx else oF (yQ part lz nx) (hi-lo).toNat nx)
mutual
def pZ(x:TX):CT->aH×aH->aH×aH
 |.node k sp fo nt ed gr lo hi lz cP=>fun nx=>
  if k=0 then(qW x sp fo nt nx.2,qW x sp fo nt nx.2)
  else if k=1 then NH x ed nx
  else if k=2 then(if gr=0 then xC x cP nx else Hb x (2*(gr.toNat-1)) (xC x cP (Hb x (2*(gr.toNat-1)+1) nx)))
  else if k=3 then qT x cP nx
  else if k=4 then vY x cP nx
  else zh x (xC x cP) lo hi lz nx
def xC(x:TX):List CT->aH×aH->aH×aH
 | []=>fun nx=>nx
 |c::_=>pZ x c
def qT(x:TX):List CT->aH×aH->aH×aH
 | []=>fun nx=>nx
 |c::cs=>fun nx=>pZ x c (qT x cs nx)
def vY(x:TX):List CT->aH×aH->aH×aH
 | []=>fun _=>(fT,fT)
 | [c]=>pZ x c
 |c::d::cs=>fun nx=>ou (pZ x c nx) (vY x (d::cs) nx)
end
def wK(n i:Nat)(a b:aH):Prop:=∀j,i<=j->j<=n->∀gs,a j gs=b j gs
theorem wK.later{n i k:Nat}{a b:aH}(h:wK n i a b)(hk:i<=k):wK n k a b:=fun j h1 h2 gs=>h j (by omega) h2 gs
def dF(n:Nat)(f:aH×aH->aH×aH):Prop:=∀(i:Nat) (p q:aH×aH),i<=n->
 ((∀gs,p.1 i gs=q.1 i gs)->wK n (i+1) p.2 q.2->∀gs,(f p).1 i gs=(f q).1 i gs)/\(wK n i p.2 q.2->∀gs,(f p).2 i gs=(f q).2 i gs)
variable {n:Nat}
theorem dF.CI{f:aH×aH->aH×aH}(h:dF n f){i:Nat}{p q:aH×aH}(e:wK n i p.2 q.2):wK n i (f p).2 (f q).2:=
 fun j hj hn gs=>(h j p q hn).2 (e.later hj) gs
theorem dF.comp{f g:aH×aH->aH×aH}(hf:dF n f)(hg:dF n g):dF n (fun p=>f (g p)):=fun i p q hi=>
 ⟨fun h1 h2 gs=>(hf i (g p) (g q) hi).1 (fun dB=>(hg i p q hi).1 h1 h2 dB) (hg.CI h2) gs,fun h gs=>(hf i (g p) (g q) hi).2 (hg.CI h) gs⟩
theorem dF.id:dF n (fun p=>p):=fun i p q hi=>⟨fun h1 _ gs=>h1 gs,fun h gs=>h i (Ab _) hi gs⟩
theorem dF.lL{f g:aH×aH->aH×aH}(hf:dF n f)(hg:dF n g):dF n (fun p=>ou (f p) (g p)):=fun i p q hi=>
 ⟨fun h1 h2 gs=>by simp only[ou,g_];rw[(hf i p q hi).1 h1 h2,(hg i p q hi).1 h1 h2],fun h gs=>by simp only[ou,g_];rw[(hf i p q hi).2 h,(hg i p q hi).2 h]⟩
theorem dF.EP{f g:aH×aH->aH×aH}(lz:Bool)(hf:dF n f)(hg:dF n g):dF n (fun p=>qq lz (f p) (g p)):=by
 unfold qq
 cases lz
 ·exact hf.lL hg
 ·exact hg.lL hf
theorem dF.iter{f:aH×aH->aH×aH}(hf:dF n f):∀m,dF n (oF f m)
 |0=>dF.id
 |m+1=>hf.comp (dF.iter hf m)
theorem dF.nR{f:aH×aH->aH×aH}(hf:dF n f)(lz:Bool):∀m,dF n (fun p=>oF (yQ f lz p) m p)
 |0=>dF.id
 |m+1=>(hf.comp (dF.nR hf lz m)).EP lz dF.id
theorem dF.take(x:TX)(sp:bF)(fo nt:Bool):dF x.l.length (fun p=>(qW x sp fo nt p.2,qW x sp fo nt p.2)):=fun i p q hi=>
 ⟨fun _ h gs=>by
   simp only[qW];by_cases aw:i<x.l.length
   ·rw[h (i+1) (Ab _) aw]
   ·simp[aw],fun h gs=>by
   simp only[qW];by_cases aw:i<x.l.length
   ·rw[h (i+1) (by omega) aw]
   ·simp[aw]⟩
theorem dF.qV(x:TX)(ed:Int):dF n (NH x ed):=fun i p q hi=>
 ⟨fun h _ gs=>by simp only[NH,zc];rw[h],fun h gs=>by simp only[NH,zc];rw[h i (Ab _) hi]⟩
theorem dF.mark(x:TX)(s:Nat):dF n (Hb x s):=fun i p q hi=>
 ⟨fun h _ gs=>by simp only[Hb,yM];rw[h],fun h gs=>by simp only[Hb,yM];rw[h i (Ab _) hi]⟩
theorem dF.none:dF n (fun _=>(fT,fT)):=fun i p q hi=>⟨fun _ _ gs=>rfl,fun _ gs=>rfl⟩
theorem afI{part:aH×aH->aH×aH}(hp:dF n part)(lz:Bool)(rest:aH):∀(d k i:Nat),n-i<d->d<=k->i<=n->∀gs,ju part lz rest k i gs=ju part lz rest d i gs:=by
 intro d;induction d with
 |zero=>intro k i h;omega
 |succ d ih=>
  intro k i h1 h2 h3 gs;obtain⟨k,rfl⟩:∃k',k=k'+1:=⟨k-1,by omega⟩
  have e:∀gs,(part (fT,ju part lz rest k)).1 i gs=(part (fT,ju part lz rest d)).1 i gs:=by
   refine(hp i (fT,ju part lz rest k) (fT,ju part lz rest d) h3).1 (fun _=>rfl) (fun j j1 j2 gs=>?_);exact ih k j (by omega) (by omega) j2 gs
  unfold ju
  cases lz
  ·simp only[Aq,if_false,g_];rw[e]
  ·simp only[if_true,g_];rw[e]
def tM(n:Nat)(part:aH×aH->aH×aH)(lz:Bool)(rest:aH):aH:=ju part lz rest (n+1)
theorem ZL{part:aH×aH->aH×aH}(hp:dF n part)(lz:Bool)(rest:aH)(i:Nat)(hi:i<=n)(gs:List Int):
 tM n part lz rest i gs=(if lz then g_ rest (part (fT,tM n part lz rest)).1 else g_ (part (fT,tM n part lz rest)).1 rest) i gs:=by
 have e:∀gs,(part (fT,ju part lz rest n)).1 i gs=(part (fT,tM n part lz rest)).1 i gs:=
  (hp i _ _ hi).1 (fun _=>rfl) (fun j j1 j2 gs=>(afI hp lz rest n (n+1) j (by omega) (by omega) j2 gs).symm)
 show ju part lz rest (n+1) i gs=_
 rw[show ju part lz rest (n+1)=if lz then g_ rest (part (fT,ju part lz rest n)).1 else g_ (part (fT,ju part lz rest n)).1 rest from rfl]
 cases lz
 ·simp only[Aq,if_false,g_];rw[e]
 ·simp only[if_true,g_];rw[e]
theorem dF.loop(x:TX){part:aH×aH->aH×aH}(hp:dF x.l.length part)(lz:Bool):dF x.l.length (uu x part lz):=by
 have key:∀(i:Nat) (p q:aH×aH),wK x.l.length i p.2 q.2->∀d,wK x.l.length i (ju part lz p.2 d) (ju part lz q.2 d):=by
  intro i p q h d;induction d with
  |zero=>intro j _ _ gs;rfl
  |succ d ih=>
   intro j j1 j2 gs
   have e:∀gs,(part (fT,ju part lz p.2 d)).1 j gs=(part (fT,ju part lz q.2 d)).1 j gs:=
    (hp j _ _ j2).1 (fun _=>rfl) (ih.later (by omega))
   unfold ju
   cases lz
   ·simp only[Aq,if_false,g_];rw[e,h j j1 j2]
   ·simp only[if_true,g_];rw[e,h j j1 j2]
 intro i p q hi
 have l8:wK x.l.length (i+1) p.2 q.2->∀gs,(part (fT,ju part lz p.2 (x.l.length+1))).1 i gs=(part (fT,ju part lz q.2 (x.l.length+1))).1 i gs:=fun h=>
  (hp i _ _ hi).1 (fun _=>rfl) (key (i+1) p q h _)
 refine⟨fun h1 h2 gs=>?_,fun h gs=>?_⟩
 ·unfold uu qq
  cases lz
  ·simp only[Aq,if_false,ou,g_];rw[l8 h2,h1]
  ·simp only[if_true,ou,g_];rw[l8 h2,h1]
 ·unfold uu qq
  cases lz
  ·simp only[Aq,if_false,ou,g_];rw[l8 (h.later (by omega)),h i (Ab _) hi]
  ·simp only[if_true,ou,g_];rw[l8 (h.later (by omega)),h i (Ab _) hi]
theorem dF.wh(x:TX){part:aH×aH->aH×aH}(hp:dF x.l.length part)(lo hi:Int)(lz:Bool):dF x.l.length (zh x part lo hi lz):=by
 unfold zh;split
 ·exact(hp.iter _).comp (dF.loop x hp lz)
 ·exact(hp.iter _).comp (hp.nR lz _)
mutual
theorem Ry(x:TX):∀c:CT,dF x.l.length (pZ x c)
 |.node k sp fo nt ed gr lo hi lz cP=>by
  have h1:=aet x cP;have h2:=aeu x cP;have h3:=aer x cP;unfold pZ;by_cases k0:k=0
  ·simp only[k0,if_true];exact dF.take x sp fo nt
  ·by_cases k1:k=1
   ·simp only[k1,if_true];exact dF.qV x ed
   ·by_cases k2:k=2
    ·simp only[k2,if_true];by_cases hg:gr=0
     ·simp only[hg,if_true];exact h1
     ·simp only[hg,if_false];exact(dF.mark x _).comp (h1.comp (dF.mark x _))
    ·by_cases k3:k=3
     ·simp only[k3,if_true];exact h2
     ·by_cases k4:k=4
      ·simp only[k4,if_true];exact h3
      ·simp only[k0,k1,k2,k3,k4,if_false];exact dF.wh x h1 lo hi lz
theorem aet(x:TX):∀cs:List CT,dF x.l.length (xC x cs)
 | []=>dF.id
 |c::_=>Ry x c
theorem aeu(x:TX):∀cs:List CT,dF x.l.length (qT x cs)
 | []=>dF.id
 |c::cs=>(Ry x c).comp (aeu x cs)
theorem aer(x:TX):∀cs:List CT,dF x.l.length (vY x cs)
 | []=>dF.none
 | [c]=>Ry x c
 |c::d::cs=>(Ry x c).lL (aer x (d::cs))
end
