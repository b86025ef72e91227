/- The library's contracts that the walks of package whole take -/
import Derived.Test.YtpdnofhackjfdaaGreatDoorP09
set_option linter.all false
set_option maxRecDepth 100000
namespace Go.Proofs.YtpdnofhackjfdaaGreatDoor
open Go.Proofs.Tryz
open Go.Shelf Go.RowKit Go.Lib Go.Sort
def Tryz.akr:Go.Shelf.Ren:=⟨fun|316=>118|n=>n,fun|9=>9|3=>3|4=>4|37=>42|0=>0|127=>239|5=>5|n=>n,fun|n=>n⟩
theorem Tryz.akq:Go.Proofs.LaysM.n316 prog Tryz.akr:={
 mixed:=by kernel_rfl
 f316:=func118.trans (congrArg some (by kernel_rfl))
 t0:=underlying0
 a0:=isAgg0
 z0:=sizeOf0
 v0:=zeroValue0
 t3:=underlying3
 a3:=isAgg3
 z3:=sizeOf3
 v3:=zeroValue3
 t4:=underlying4
 a4:=isAgg4
 z4:=sizeOf4
 v4:=zeroValue4
 t9:=underlying9
 a9:=isAgg9
 z9:=sizeOf9
 v9:=zeroValue9
 t37:=underlying42
 a37:=isAgg42
 z37:=sizeOf42
 v37:=zeroValue42
 t127:=underlying239
 a127:=isAgg239
 z127:=sizeOf239
 v127:=zeroValue239
 t5:=underlying5
 a5:=isAgg5
 z5:=sizeOf5
 v5:=zeroValue5
 i0:=by kernel_rfl
 i3:=by kernel_rfl
 i4:=by kernel_rfl
 i5:=by kernel_rfl
 i9:=by kernel_rfl
 i37:=by kernel_rfl
 i127:=by kernel_rfl}
def Tryz.akp:Go.Shelf.Ren:=⟨fun|212=>117|263=>143|264=>144|n=>n,fun|46=>197|51=>234|146=>235|53=>207|148=>237|n=>n,fun|n=>n⟩
theorem Tryz.ako:Go.Proofs.Lays.n212 prog Tryz.akp:={
 mixed:=by kernel_rfl
 f212:=func117.trans (congrArg some (by kernel_rfl))
 f263:=func143.trans (congrArg some (by kernel_rfl))
 f264:=func144.trans (congrArg some (by kernel_rfl))
 t46:=underlying197
 a46:=isAgg197
 z46:=sizeOf197
 v46:=zeroValue197
 t51:=underlying234
 a51:=isAgg234
 z51:=sizeOf234
 v51:=zeroValue234
 t53:=underlying207
 a53:=isAgg207
 z53:=sizeOf207
 v53:=zeroValue207
 t146:=underlying235
 a146:=isAgg235
 z146:=sizeOf235
 v146:=zeroValue235
 t148:=underlying237
 a148:=isAgg237
 z148:=sizeOf237
 v148:=zeroValue237}
def Tryz.acD:Go.Shelf.Ren:=⟨fun|271=>138|120=>160|197=>91|260=>116|n=>n,fun|9=>9|21=>21|3=>3|4=>4|5=>5|105=>176|119=>193|0=>0|46=>197|139=>196|138=>195|n=>n,fun|3=>0|4=>1|n=>n⟩
theorem Tryz.VT:Go.Proofs.Lays.n271 prog Tryz.acD:={
 mixed:=by kernel_rfl
 f120:=func160.trans (congrArg some (by kernel_rfl))
 f197:=func91.trans (congrArg some (by kernel_rfl))
 f260:=func116.trans (congrArg some (by kernel_rfl))
 f271:=func138.trans (congrArg some (by kernel_rfl))
 t0:=underlying0
 a0:=isAgg0
 z0:=sizeOf0
 v0:=zeroValue0
 t3:=underlying3
 a3:=isAgg3
 z3:=sizeOf3
 v3:=zeroValue3
 t4:=underlying4
 a4:=isAgg4
 z4:=sizeOf4
 v4:=zeroValue4
 t5:=underlying5
 a5:=isAgg5
 z5:=sizeOf5
 v5:=zeroValue5
 t9:=underlying9
 a9:=isAgg9
 z9:=sizeOf9
 v9:=zeroValue9
 t21:=underlying21
 a21:=isAgg21
 z21:=sizeOf21
 v21:=zeroValue21
 t46:=underlying197
 a46:=isAgg197
 z46:=sizeOf197
 v46:=zeroValue197
 t105:=underlying176
 a105:=isAgg176
 z105:=sizeOf176
 v105:=zeroValue176
 t119:=underlying193
 a119:=isAgg193
 z119:=sizeOf193
 t138:=underlying195
 a138:=isAgg195
 z138:=sizeOf195
 v138:=zeroValue195
 t139:=underlying196
 a139:=isAgg196
 z139:=sizeOf196
 v139:=zeroValue196
 g3:=by kernel_rfl
 g4:=by kernel_rfl}
def Tryz.ant:Go.Shelf.Ren:=⟨fun|16=>139|n=>n,fun|3=>3|35=>175|4=>4|38=>197|n=>n,fun|n=>n⟩
theorem Tryz.aep:Go.Proofs.SlLaysO.n16 prog Tryz.ant:={
 mixed:=by kernel_rfl
 f16:=func139.trans (congrArg some (by kernel_rfl))
 t3:=underlying3
 a3:=isAgg3
 z3:=sizeOf3
 v3:=zeroValue3
 t4:=underlying4
 a4:=isAgg4
 z4:=sizeOf4
 v4:=zeroValue4
 t35:=underlying175
 a35:=isAgg175
 z35:=sizeOf175
 v35:=zeroValue175
 t38:=underlying197
 a38:=isAgg197
 z38:=sizeOf197
 v38:=zeroValue197}
theorem BE{w w':World}(h:Go.RowKit.Below w.heap.size w w'):aa af w w':=⟨h.os,h.tape,h.output,h.size,fun k hk _=>h.block k hk⟩
def ik(w:World):Prop:=Lib.Utf8Tabs 0 1 w
theorem aau(s:ByteArray)(w:World)(hT:ik w):Calls prog 91 #[.string s] w fun e w'=>e=.returned (.tuple #[.int .i32 (Lib.decodeGo s).1,.int .i64 (Lib.decodeGo s).2])/\aa af w w':=by
 refine(Any.utf8_DecodeRuneInString {Tryz.VT with} s w hT).mono ?_;rintro e w' ⟨h1,h2⟩;exact⟨h1,BE h2⟩
theorem ahg(s:ByteArray)(w:World)(hs:s.size<=9223372036854775807)(hT:ik w):Calls prog 138 #[.string s] w fun e w'=>e=.returned (.tuple #[.int .i32 (Lib.decodeLastL s.data.toList).1,.int .i64 (Lib.decodeLastL s.data.toList).2])/\aa af w w':=by
 refine(Any.utf8_DecodeLastRuneInString Tryz.VT s w hs hT).mono ?_;rintro e w' ⟨h1,h2⟩;exact⟨h1,BE h2⟩
theorem agT(s:ByteArray)(w:World)(hs:s.size<=281474976710656):Calls prog 118 #[.string s] w fun e w'=>e=.returned (.string s)/\aa af w w':=by
 refine(Any.stringslite_Clone Tryz.akq s w hs).mono ?_;rintro e w' ⟨h1,h2⟩;exact⟨h1,BE h2⟩
theorem akV(x y:Nat)(hx:x<18446744073709551616)(hy:y<18446744073709551616)(w:World):
 Calls prog 117 #[.int .u64 x,.int .u64 y] w fun e w'=>e=.returned (.tuple #[.int .u64 ((x*y/18446744073709551616:Nat):Int),.int .u64 ((x*y % 18446744073709551616:Nat):Int)])/\w'=w:=Any.bits_Mul Tryz.ako x y hx hy w
theorem ik.kept{w w':World}{S:Nat->Prop}(h:ik w)(k:aa S w w')(h3:¬S 0)(h4:¬S 1):ik w':=by
 have key:∀{a:Addr} {v:Value},¬S a.block->w.cell? a=some v->w'.cell? a=some v:=fun{a v} ha hc=>(k.cell (Bh _ _ hc) ha).trans hc
 exact⟨fun c hc=>key h3 (h.1 c hc),fun i hi=>⟨key h4 (h.2 i hi).1,key h4 (h.2 i hi).2⟩⟩
theorem ik.iU{w w':World}(h:ik w)(k:aa af w w'):ik w':=h.kept k (fun h=>h) (fun h=>h)
abbrev aH:=Nat->List Int->Option (Nat×List Int)
def fS:aH:=fun _ _=>none
def g_(a b:aH):aH:=fun i gs=>match a i gs with
 |some v=>some v
 |none=>b i gs
def n_(a b:aH×aH):aH×aH:=(g_ a.1 b.1,g_ a.2 b.2)
def qn(lz:Bool)(part rest:aH×aH):aH×aH:=if lz then n_ rest part else n_ part rest
def fP(sp:bD)(fo nt:Bool)(c:Int):Bool:=(bU sp c||(fo&&yI c&&bU sp (yS c))) !=nt
def DU(x:TX)(ed:Int)(i:Nat):Bool:=
 if ed=0 then i==0 else if ed=1 then i==x.l.length else if ed=2 then x.wk ((i:Int)-1) !=x.wk i else !(x.wk ((i:Int)-1) !=x.wk i)
def uD(x:TX)(sp:bD)(fo nt:Bool)(k:aH):aH:=fun i gs=>if decide (i<x.l.length)&&fP sp fo nt (x.bu i)then k (i+1) gs else none
def za(x:TX)(ed:Int)(k:aH):aH:=fun i gs=>if DU x ed i then k i gs else none
def yM(x:TX)(slot:Nat)(k:aH):aH:=fun i gs=>k i (gs.set slot (x.aW i))
def Nw(x:TX)(ed:Int)(p:aH×aH):aH×aH:=(za x ed p.1,za x ed p.2)
def GJ(x:TX)(slot:Nat)(p:aH×aH):aH×aH:=(yM x slot p.1,yM x slot p.2)
def ox(f:aH×aH->aH×aH):Nat->aH×aH->aH×aH
 |0,p=>p
 |n+1,p=>f (ox f n p)
def js(part:aH×aH->aH×aH)(lz:Bool)(rest:aH):Nat->aH
 |0=>fS
 |n+1=>if lz then g_ rest (part (fS,js part lz rest n)).1 else g_ (part (fS,js part lz rest n)).1 rest
def ur(x:TX)(part:aH×aH->aH×aH)(lz:Bool)(nx:aH×aH):aH×aH:=
 qn lz ((part (fS,js part lz nx.2 (x.l.length+1))).1,(part (fS,js part lz nx.2 (x.l.length+1))).1) nx
def yQ(part:aH×aH->aH×aH)(lz:Bool)(nx:aH×aH):aH×aH->aH×aH:=fun all=>qn lz (part all) nx
def ze(x:TX)(part:aH×aH->aH×aH)(lo hi:Int)(lz:Bool)(nx:aH×aH):aH×aH:=
 ox part lo.toNat (if hi= -1 then ur x part lz nx else ox (yQ part lz nx) (hi-lo).toNat nx)
mutual
def tn(x:TX):CT->aH×aH->aH×aH
 |.node k sp fo nt ed gr lo hi lz cN=>fun nx=>
  if k=0 then(uD x sp fo nt nx.2,uD x sp fo nt nx.2)
  else if k=1 then Nw x ed nx
  else if k=2 then(if gr=0 then xC x cN nx else GJ x (2*(gr.toNat-1)) (xC x cN (GJ x (2*(gr.toNat-1)+1) nx)))
  else if k=3 then y8 x cN nx
  else if k=4 then xB x cN nx
  else ze x (xC x cN) lo hi lz nx
def xC(x:TX):List CT->aH×aH->aH×aH
 | []=>fun nx=>nx
 |c::_=>tn x c
def y8(x:TX):List CT->aH×aH->aH×aH
 | []=>fun nx=>nx
 |c::cs=>fun nx=>tn x c (y8 x cs nx)
def xB(x:TX):List CT->aH×aH->aH×aH
 | []=>fun _=>(fS,fS)
 | [c]=>tn x c
 |c::d::cs=>fun nx=>n_ (tn x c nx) (xB x (d::cs) nx)
end
def wI(n i:Nat)(a b:aH):Prop:=∀j,i<=j->j<=n->∀gs,a j gs=b j gs
theorem wI.later{n i k:Nat}{a b:aH}(h:wI n i a b)(hk:i<=k):wI n k a b:=fun j h1 h2 gs=>h j (by omega) h2 gs
def dB(n:Nat)(f:aH×aH->aH×aH):Prop:=∀(i:Nat) (p q:aH×aH),i<=n->
 ((∀gs,p.1 i gs=q.1 i gs)->wI n (i+1) p.2 q.2->∀gs,(f p).1 i gs=(f q).1 i gs)/\(wI n i p.2 q.2->∀gs,(f p).2 i gs=(f q).2 i gs)
variable {n:Nat}
theorem dB.BL{f:aH×aH->aH×aH}(h:dB n f){i:Nat}{p q:aH×aH}(e:wI n i p.2 q.2):wI n i (f p).2 (f q).2:=
 fun j hj hn gs=>(h j p q hn).2 (e.later hj) gs
theorem dB.comp{f g:aH×aH->aH×aH}(hf:dB n f)(hg:dB n g):dB n (fun p=>f (g p)):=fun i p q hi=>
 ⟨fun h1 h2 gs=>(hf i (g p) (g q) hi).1 (fun dp=>(hg i p q hi).1 h1 h2 dp) (hg.BL h2) gs,fun h gs=>(hf i (g p) (g q) hi).2 (hg.BL h) gs⟩
theorem dB.id:dB n (fun p=>p):=fun i p q hi=>⟨fun h1 _ gs=>h1 gs,fun h gs=>h i (Ab _) hi gs⟩
theorem dB.lJ{f g:aH×aH->aH×aH}(hf:dB n f)(hg:dB n g):dB n (fun p=>n_ (f p) (g p)):=fun i p q hi=>
 ⟨fun h1 h2 gs=>by simp only[n_,g_];rw[(hf i p q hi).1 h1 h2,(hg i p q hi).1 h1 h2],fun h gs=>by simp only[n_,g_];rw[(hf i p q hi).2 h,(hg i p q hi).2 h]⟩
theorem dB.DV{f g:aH×aH->aH×aH}(lz:Bool)(hf:dB n f)(hg:dB n g):dB n (fun p=>qn lz (f p) (g p)):=by
 unfold qn
 cases lz
 ·exact hf.lJ hg
 ·exact hg.lJ hf
theorem dB.iter{f:aH×aH->aH×aH}(hf:dB n f):∀m,dB n (ox f m)
 |0=>dB.id
 |m+1=>hf.comp (dB.iter hf m)
theorem dB.nK{f:aH×aH->aH×aH}(hf:dB n f)(lz:Bool):∀m,dB n (fun p=>ox (yQ f lz p) m p)
 |0=>dB.id
 |m+1=>(hf.comp (dB.nK hf lz m)).DV lz dB.id
theorem dB.take(x:TX)(sp:bD)(fo nt:Bool):dB x.l.length (fun p=>(uD x sp fo nt p.2,uD x sp fo nt p.2)):=fun i p q hi=>
 ⟨fun _ h gs=>by
   simp only[uD];by_cases aw:i<x.l.length
   ·rw[h (i+1) (Ab _) aw]
   ·simp[aw],fun h gs=>by
   simp only[uD];by_cases aw:i<x.l.length
   ·rw[h (i+1) (by omega) aw]
   ·simp[aw]⟩
theorem dB.qT(x:TX)(ed:Int):dB n (Nw x ed):=fun i p q hi=>
 ⟨fun h _ gs=>by simp only[Nw,za];rw[h],fun h gs=>by simp only[Nw,za];rw[h i (Ab _) hi]⟩
theorem dB.mark(x:TX)(s:Nat):dB n (GJ x s):=fun i p q hi=>
 ⟨fun h _ gs=>by simp only[GJ,yM];rw[h],fun h gs=>by simp only[GJ,yM];rw[h i (Ab _) hi]⟩
theorem dB.none:dB n (fun _=>(fS,fS)):=fun i p q hi=>⟨fun _ _ gs=>rfl,fun _ gs=>rfl⟩
theorem afL{part:aH×aH->aH×aH}(hp:dB n part)(lz:Bool)(rest:aH):∀(d k i:Nat),n-i<d->d<=k->i<=n->∀gs,js part lz rest k i gs=js part lz rest d i gs:=by
 intro d;induction d with
 |zero=>intro k i h;omega
 |succ d ih=>
  intro k i h1 h2 h3 gs;obtain⟨k,rfl⟩:∃k',k=k'+1:=⟨k-1,by omega⟩
  have e:∀gs,(part (fS,js part lz rest k)).1 i gs=(part (fS,js part lz rest d)).1 i gs:=by
   refine(hp i (fS,js part lz rest k) (fS,js part lz rest d) h3).1 (fun _=>rfl) (fun j j1 j2 gs=>?_);exact ih k j (by omega) (by omega) j2 gs
  unfold js
  cases lz
  ·simp only[Aq,if_false,g_];rw[e]
  ·simp only[if_true,g_];rw[e]
def tH(n:Nat)(part:aH×aH->aH×aH)(lz:Bool)(rest:aH):aH:=js part lz rest (n+1)
theorem ZM{part:aH×aH->aH×aH}(hp:dB n part)(lz:Bool)(rest:aH)(i:Nat)(hi:i<=n)(gs:List Int):
 tH n part lz rest i gs=(if lz then g_ rest (part (fS,tH n part lz rest)).1 else g_ (part (fS,tH n part lz rest)).1 rest) i gs:=by
 have e:∀gs,(part (fS,js part lz rest n)).1 i gs=(part (fS,tH n part lz rest)).1 i gs:=
  (hp i _ _ hi).1 (fun _=>rfl) (fun j j1 j2 gs=>(afL hp lz rest n (n+1) j (by omega) (by omega) j2 gs).symm)
 show js part lz rest (n+1) i gs=_
 rw[show js part lz rest (n+1)=if lz then g_ rest (part (fS,js part lz rest n)).1 else g_ (part (fS,js part lz rest n)).1 rest from rfl]
 cases lz
 ·simp only[Aq,if_false,g_];rw[e]
 ·simp only[if_true,g_];rw[e]
theorem dB.loop(x:TX){part:aH×aH->aH×aH}(hp:dB x.l.length part)(lz:Bool):dB x.l.length (ur x part lz):=by
 have key:∀(i:Nat) (p q:aH×aH),wI x.l.length i p.2 q.2->∀d,wI x.l.length i (js part lz p.2 d) (js part lz q.2 d):=by
  intro i p q h d;induction d with
  |zero=>intro j _ _ gs;rfl
  |succ d ih=>
   intro j j1 j2 gs
   have e:∀gs,(part (fS,js part lz p.2 d)).1 j gs=(part (fS,js part lz q.2 d)).1 j gs:=
    (hp j _ _ j2).1 (fun _=>rfl) (ih.later (by omega))
   unfold js
   cases lz
   ·simp only[Aq,if_false,g_];rw[e,h j j1 j2]
   ·simp only[if_true,g_];rw[e,h j j1 j2]
 intro i p q hi
 have lX:wI x.l.length (i+1) p.2 q.2->∀gs,(part (fS,js part lz p.2 (x.l.length+1))).1 i gs=(part (fS,js part lz q.2 (x.l.length+1))).1 i gs:=fun h=>
  (hp i _ _ hi).1 (fun _=>rfl) (key (i+1) p q h _)
 refine⟨fun h1 h2 gs=>?_,fun h gs=>?_⟩
 ·unfold ur qn
  cases lz
  ·simp only[Aq,if_false,n_,g_];rw[lX h2,h1]
  ·simp only[if_true,n_,g_];rw[lX h2,h1]
 ·unfold ur qn
  cases lz
  ·simp only[Aq,if_false,n_,g_];rw[lX (h.later (by omega)),h i (Ab _) hi]
  ·simp only[if_true,n_,g_];rw[lX (h.later (by omega)),h i (Ab _) hi]
theorem dB.we(x:TX){part:aH×aH->aH×aH}(hp:dB x.l.length part)(lo hi:Int)(lz:Bool):dB x.l.length (ze x part lo hi lz):=by
 unfold ze;split
 ·exact(hp.iter _).comp (dB.loop x hp lz)
 ·exact(hp.iter _).comp (hp.nK lz _)
mutual
theorem Rl(x:TX):∀c:CT,dB x.l.length (tn x c)
 |.node k sp fo nt ed gr lo hi lz cN=>by
  have h1:=aeu x cN;have h2:=aev x cN;have h3:=aes x cN;unfold tn;by_cases k0:k=0
  ·simp only[k0,if_true];exact dB.take x sp fo nt
  ·by_cases k1:k=1
   ·simp only[k1,if_true];exact dB.qT x ed
   ·by_cases k2:k=2
    ·simp only[k2,if_true];by_cases hg:gr=0
     ·simp only[hg,if_true];exact h1
     ·simp only[hg,if_false];exact(dB.mark x _).comp (h1.comp (dB.mark x _))
    ·by_cases k3:k=3
     ·simp only[k3,if_true];exact h2
     ·by_cases k4:k=4
      ·simp only[k4,if_true];exact h3
      ·simp only[k0,k1,k2,k3,k4,if_false];exact dB.we x h1 lo hi lz
theorem aeu(x:TX):∀cs:List CT,dB x.l.length (xC x cs)
 | []=>dB.id
 |c::_=>Rl x c
theorem aev(x:TX):∀cs:List CT,dB x.l.length (y8 x cs)
 | []=>dB.id
 |c::cs=>(Rl x c).comp (aev x cs)
theorem aes(x:TX):∀cs:List CT,dB x.l.length (xB x cs)
 | []=>dB.none
 | [c]=>Rl x c
 |c::d::cs=>(Rl x c).lJ (aes x (d::cs))
end
end Go.Proofs.YtpdnofhackjfdaaGreatDoor
