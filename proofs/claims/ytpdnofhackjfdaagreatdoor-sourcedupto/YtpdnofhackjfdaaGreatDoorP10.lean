/- The library's co -/
import Derived.Test.YtpdnofhackjfdaaGreatDoorP09
set_option linter.all false
set_option maxRecDepth 100000
namespace Go.Proofs.YtpdnofhackjfdaaGreatDoor
open Go.Proofs.Tryz
open Go.Shelf Go.RowKit Go.Lib Go.Sort
def Tryz.ali:Go.Shelf.Ren:=⟨fun|316=>118|n=>n,fun|9=>9|3=>3|4=>4|37=>42|0=>0|127=>239|5=>5|n=>n,fun|n=>n⟩
theorem Tryz.alh:Go.Proofs.LaysM.n316 prog Tryz.ali:={
 mixed:=by kernel_rfl
 f316:=func118.trans (congrArg some (by kernel_rfl))
 t0:=underlying0
 a0:=isAgg0
 z0:=sizeOf0
 v0:=zeroValue0
 t3:=underlying3
 a3:=isAgg3
 z3:=sizeOf3
 v3:=zeroValue3
 t4:=underlying4
 a4:=isAgg4
 z4:=sizeOf4
 v4:=zeroValue4
 t9:=underlying9
 a9:=isAgg9
 z9:=sizeOf9
 v9:=zeroValue9
 t37:=underlying42
 a37:=isAgg42
 z37:=sizeOf42
 v37:=zeroValue42
 t127:=underlying239
 a127:=isAgg239
 z127:=sizeOf239
 v127:=zeroValue239
 t5:=underlying5
 a5:=isAgg5
 z5:=sizeOf5
 v5:=zeroValue5
 i0:=by kernel_rfl
 i3:=by kernel_rfl
 i4:=by kernel_rfl
 i5:=by kernel_rfl
 i9:=by kernel_rfl
 i37:=by kernel_rfl
 i127:=by kernel_rfl}
def Tryz.alg:Go.Shelf.Ren:=⟨fun|212=>117|263=>143|264=>144|n=>n,fun|46=>197|51=>234|146=>235|53=>207|148=>237|n=>n,fun|n=>n⟩
theorem Tryz.alf:Go.Proofs.Lays.n212 prog Tryz.alg:={
 mixed:=by kernel_rfl
 f212:=func117.trans (congrArg some (by kernel_rfl))
 f263:=func143.trans (congrArg some (by kernel_rfl))
 f264:=func144.trans (congrArg some (by kernel_rfl))
 t46:=underlying197
 a46:=isAgg197
 z46:=sizeOf197
 v46:=zeroValue197
 t51:=underlying234
 a51:=isAgg234
 z51:=sizeOf234
 v51:=zeroValue234
 t53:=underlying207
 a53:=isAgg207
 z53:=sizeOf207
 v53:=zeroValue207
 t146:=underlying235
 a146:=isAgg235
 z146:=sizeOf235
 v146:=zeroValue235
 t148:=underlying237
 a148:=isAgg237
 z148:=sizeOf237
 v148:=zeroValue237}
def Tryz.adj:Go.Shelf.Ren:=⟨fun|271=>138|120=>160|197=>91|260=>116|n=>n,fun|9=>9|21=>21|3=>3|4=>4|5=>5|105=>176|119=>193|0=>0|46=>197|139=>196|138=>195|n=>n,fun|3=>0|4=>1|n=>n⟩
theorem Tryz.Xu:Go.Proofs.Lays.n271 prog Tryz.adj:={
 mixed:=by kernel_rfl
 f120:=func160.trans (congrArg some (by kernel_rfl))
 f197:=func91.trans (congrArg some (by kernel_rfl))
 f260:=func116.trans (congrArg some (by kernel_rfl))
 f271:=func138.trans (congrArg some (by kernel_rfl))
 t0:=underlying0
 a0:=isAgg0
 z0:=sizeOf0
 v0:=zeroValue0
 t3:=underlying3
 a3:=isAgg3
 z3:=sizeOf3
 v3:=zeroValue3
 t4:=underlying4
 a4:=isAgg4
 z4:=sizeOf4
 v4:=zeroValue4
 t5:=underlying5
 a5:=isAgg5
 z5:=sizeOf5
 v5:=zeroValue5
 t9:=underlying9
 a9:=isAgg9
 z9:=sizeOf9
 v9:=zeroValue9
 t21:=underlying21
 a21:=isAgg21
 z21:=sizeOf21
 v21:=zeroValue21
 t46:=underlying197
 a46:=isAgg197
 z46:=sizeOf197
 v46:=zeroValue197
 t105:=underlying176
 a105:=isAgg176
 z105:=sizeOf176
 v105:=zeroValue176
 t119:=underlying193
 a119:=isAgg193
 z119:=sizeOf193
 t138:=underlying195
 a138:=isAgg195
 z138:=sizeOf195
 v138:=zeroValue195
 t139:=underlying196
 a139:=isAgg196
 z139:=sizeOf196
 v139:=zeroValue196
 g3:=by kernel_rfl
 g4:=by kernel_rfl}
def Tryz.aox:Go.Shelf.Ren:=⟨fun|16=>139|n=>n,fun|3=>3|35=>175|4=>4|38=>197|n=>n,fun|n=>n⟩
theorem Tryz.afa:Go.Proofs.SlLaysO.n16 prog Tryz.aox:={
 mixed:=by kernel_rfl
 f16:=func139.trans (congrArg some (by kernel_rfl))
 t3:=underlying3
 a3:=isAgg3
 z3:=sizeOf3
 v3:=zeroValue3
 t4:=underlying4
 a4:=isAgg4
 z4:=sizeOf4
 v4:=zeroValue4
 t35:=underlying175
 a35:=isAgg175
 z35:=sizeOf175
 v35:=zeroValue175
 t38:=underlying197
 a38:=isAgg197
 z38:=sizeOf197
 v38:=zeroValue197}
theorem DI{w w':World}(h:Go.RowKit.Below w.heap.size w w'):aa ai w w':=⟨h.os,h.tape,h.output,h.size,fun k hk _=>h.block k hk⟩
def iM(w:World):Prop:=Lib.Utf8Tabs 0 1 w
theorem aa9(s:ByteArray)(w:World)(hT:iM w):Calls prog 91 #[.string s] w fun e w'=>e=.returned (.tuple #[.int .i32 (Lib.decodeGo s).1,GW (Lib.decodeGo s).2])/\aa ai w w':=by
 refine(Any.utf8_DecodeRuneInString {Tryz.Xu with} s w hT).mono ?_;rintro e w' ⟨h1,h2⟩;exact⟨h1,DI h2⟩
theorem ah7(s:ByteArray)(w:World)(hs:s.size<=9223372036854775807)(hT:iM w):Calls prog 138 #[.string s] w fun e w'=>e=.returned (.tuple #[.int .i32 (Lib.decodeLastL s.data.toList).1,GW (Lib.decodeLastL s.data.toList).2])/\aa ai w w':=by
 refine(Any.utf8_DecodeLastRuneInString Tryz.Xu s w hs hT).mono ?_;rintro e w' ⟨h1,h2⟩;exact⟨h1,DI h2⟩
theorem ahH(s:ByteArray)(w:World)(hs:s.size<=281474976710656):Calls prog 118 #[.string s] w fun e w'=>e=.returned (.string s)/\aa ai w w':=by
 refine(Any.stringslite_Clone Tryz.alh s w hs).mono ?_;rintro e w' ⟨h1,h2⟩;exact⟨h1,DI h2⟩
theorem alP(x y:Nat)(hx:x<18446744073709551616)(hy:y<18446744073709551616)(w:World):
 Calls prog 117 #[.int .u64 x,.int .u64 y] w fun e w'=>e=.returned (.tuple #[.int .u64 ((x*y/18446744073709551616:Nat):Int),.int .u64 ((x*y % 18446744073709551616:Nat):Int)])/\w'=w:=Any.bits_Mul Tryz.alf x y hx hy w
theorem iM.kept{w w':World}{S:Nat->Prop}(h:iM w)(k:aa S w w')(h3:¬S 0)(h4:¬S 1):iM w':=by
 have key:∀{a:Addr} {v:Value},¬S a.block->w.cell? a=some v->w'.cell? a=some v:=fun{a v} ha hc=>(k.cell (Bk _ _ hc) ha).trans hc
 exact⟨fun c hc=>key h3 (h.1 c hc),fun i hi=>⟨key h4 (h.2 i hi).1,key h4 (h.2 i hi).2⟩⟩
theorem iM.iR{w w':World}(h:iM w)(k:aa ai w w'):iM w':=h.kept k (fun h=>h) (fun h=>h)
abbrev aL:=Nat->List Int->Option (Nat×List Int)
def gh:aL:=fun _ _=>none
def iu(a b:aL):aL:=fun i gs=>match a i gs with
 |some v=>some v
 |none=>b i gs
def oz(a b:aL×aL):aL×aL:=(iu a.1 b.1,iu a.2 b.2)
def qL(lz:Bool)(part rest:aL×aL):aL×aL:=if lz then oz rest part else oz part rest
def fW(sp:bI)(fo nt:Bool)(c:Int):Bool:=(cu sp c||(fo&&zz c&&cu sp (zI c))) !=nt
def Gv(x:TX)(ed:Int)(i:Nat):Bool:=
 if ed=0 then i==0 else if ed=1 then i==x.l.length else if ed=2 then x.wX ((i:Int)-1) !=x.wX i else !(x.wX ((i:Int)-1) !=x.wX i)
def uY(x:TX)(sp:bI)(fo nt:Bool)(k:aL):aL:=fun i gs=>if decide (i<x.l.length)&&fW sp fo nt (x.bF i)then k (i+1) gs else none
def zU(x:TX)(ed:Int)(k:aL):aL:=fun i gs=>if Gv x ed i then k i gs else none
def zD(x:TX)(slot:Nat)(k:aL):aL:=fun i gs=>k i (gs.set slot (x.aZ i))
def OM(x:TX)(ed:Int)(p:aL×aL):aL×aL:=(zU x ed p.1,zU x ed p.2)
def Ir(x:TX)(slot:Nat)(p:aL×aL):aL×aL:=(zD x slot p.1,zD x slot p.2)
def oN(f:aL×aL->aL×aL):Nat->aL×aL->aL×aL
 |0,p=>p
 |n+1,p=>f (oN f n p)
def jA(part:aL×aL->aL×aL)(lz:Bool)(rest:aL):Nat->aL
 |0=>gh
 |n+1=>if lz then iu rest (part (gh,jA part lz rest n)).1 else iu (part (gh,jA part lz rest n)).1 rest
def uP(x:TX)(part:aL×aL->aL×aL)(lz:Bool)(nx:aL×aL):aL×aL:=
 qL lz ((part (gh,jA part lz nx.2 (x.l.length+1))).1,(part (gh,jA part lz nx.2 (x.l.length+1))).1) nx
def zG(part:aL×aL->aL×aL)(lz:Bool)(nx:aL×aL):aL×aL->aL×aL:=fun all=>qL lz (part all) nx
def zY(x:TX)(part:aL×aL->aL×aL)(lo hi:Int)(lz:Bool)(nx:aL×aL):aL×aL:=
 oN part lo.toNat (if hi= -1 then uP x part lz nx else oN (zG part lz nx) (hi-lo).toNat nx)
mutual
def tM(x:TX):CT->aL×aL->aL×aL
 |.node k sp fo nt ed gr lo hi lz cU=>fun nx=>
  if k=0 then(uY x sp fo nt nx.2,uY x sp fo nt nx.2)
  else if k=1 then OM x ed nx
  else if k=2 then(if gr=0 then yi x cU nx else Ir x (2*(gr.toNat-1)) (yi x cU (Ir x (2*(gr.toNat-1)+1) nx)))
  else if k=3 then zR x cU nx
  else if k=4 then yh x cU nx
  else zY x (yi x cU) lo hi lz nx
def yi(x:TX):List CT->aL×aL->aL×aL
 | []=>fun nx=>nx
 |c::_=>tM x c
def zR(x:TX):List CT->aL×aL->aL×aL
 | []=>fun nx=>nx
 |c::cs=>fun nx=>tM x c (zR x cs nx)
def yh(x:TX):List CT->aL×aL->aL×aL
 | []=>fun _=>(gh,gh)
 | [c]=>tM x c
 |c::d::cs=>fun nx=>oz (tM x c nx) (yh x (d::cs) nx)
end
def xp(n i:Nat)(a b:aL):Prop:=∀j,i<=j->j<=n->∀gs,a j gs=b j gs
theorem xp.later{n i k:Nat}{a b:aL}(h:xp n i a b)(hk:i<=k):xp n k a b:=fun j h1 h2 gs=>h j (by omega) h2 gs
def dK(n:Nat)(f:aL×aL->aL×aL):Prop:=∀(i:Nat) (p q:aL×aL),i<=n->
 ((∀gs,p.1 i gs=q.1 i gs)->xp n (i+1) p.2 q.2->∀gs,(f p).1 i gs=(f q).1 i gs)/\(xp n i p.2 q.2->∀gs,(f p).2 i gs=(f q).2 i gs)
variable {n:Nat}
theorem dK.DN{f:aL×aL->aL×aL}(h:dK n f){i:Nat}{p q:aL×aL}(e:xp n i p.2 q.2):xp n i (f p).2 (f q).2:=
 fun j hj hn gs=>(h j p q hn).2 (e.later hj) gs
theorem dK.comp{f g:aL×aL->aL×aL}(hf:dK n f)(hg:dK n g):dK n (fun p=>f (g p)):=fun i p q hi=>
 ⟨fun h1 h2 gs=>(hf i (g p) (g q) hi).1 (fun dA=>(hg i p q hi).1 h1 h2 dA) (hg.DN h2) gs,fun h gs=>(hf i (g p) (g q) hi).2 (hg.DN h) gs⟩
theorem dK.id:dK n (fun p=>p):=fun i p q hi=>⟨fun h1 _ gs=>h1 gs,fun h gs=>h i (Ab _) hi gs⟩
theorem dK.lW{f g:aL×aL->aL×aL}(hf:dK n f)(hg:dK n g):dK n (fun p=>oz (f p) (g p)):=fun i p q hi=>
 ⟨fun h1 h2 gs=>by simp only[oz,iu];rw[(hf i p q hi).1 h1 h2,(hg i p q hi).1 h1 h2],fun h gs=>by simp only[oz,iu];rw[(hf i p q hi).2 h,(hg i p q hi).2 h]⟩
theorem dK.Gw{f g:aL×aL->aL×aL}(lz:Bool)(hf:dK n f)(hg:dK n g):dK n (fun p=>qL lz (f p) (g p)):=by
 unfold qL
 cases lz
 ·exact hf.lW hg
 ·exact hg.lW hf
theorem dK.iter{f:aL×aL->aL×aL}(hf:dK n f):∀m,dK n (oN f m)
 |0=>dK.id
 |m+1=>hf.comp (dK.iter hf m)
theorem dK.nX{f:aL×aL->aL×aL}(hf:dK n f)(lz:Bool):∀m,dK n (fun p=>oN (zG f lz p) m p)
 |0=>dK.id
 |m+1=>(hf.comp (dK.nX hf lz m)).Gw lz dK.id
theorem dK.take(x:TX)(sp:bI)(fo nt:Bool):dK x.l.length (fun p=>(uY x sp fo nt p.2,uY x sp fo nt p.2)):=fun i p q hi=>
 ⟨fun _ h gs=>by
   simp only[uY];by_cases az:i<x.l.length
   ·rw[h (i+1) (Ab _) az]
   ·simp[az],fun h gs=>by
   simp only[uY];by_cases az:i<x.l.length
   ·rw[h (i+1) (by omega) az]
   ·simp[az]⟩
theorem dK.rF(x:TX)(ed:Int):dK n (OM x ed):=fun i p q hi=>
 ⟨fun h _ gs=>by simp only[OM,zU];rw[h],fun h gs=>by simp only[OM,zU];rw[h i (Ab _) hi]⟩
theorem dK.mark(x:TX)(s:Nat):dK n (Ir x s):=fun i p q hi=>
 ⟨fun h _ gs=>by simp only[Ir,zD];rw[h],fun h gs=>by simp only[Ir,zD];rw[h i (Ab _) hi]⟩
theorem dK.none:dK n (fun _=>(gh,gh)):=fun i p q hi=>⟨fun _ _ gs=>rfl,fun _ gs=>rfl⟩
theorem agv{part:aL×aL->aL×aL}(hp:dK n part)(lz:Bool)(rest:aL):∀(d k i:Nat),n-i<d->d<=k->i<=n->∀gs,jA part lz rest k i gs=jA part lz rest d i gs:=by
 intro d;induction d with
 |zero=>intro k i h;omega
 |succ d ih=>
  intro k i h1 h2 h3 gs;obtain⟨k,rfl⟩:∃k',k=k'+1:=⟨k-1,by omega⟩
  have e:∀gs,(part (gh,jA part lz rest k)).1 i gs=(part (gh,jA part lz rest d)).1 i gs:=by
   refine(hp i (gh,jA part lz rest k) (gh,jA part lz rest d) h3).1 (fun _=>rfl) (fun j j1 j2 gs=>?_);exact ih k j (by omega) (by omega) j2 gs
  unfold jA
  cases lz
  ·simp only[Aq,if_false,iu];rw[e]
  ·simp only[if_true,iu];rw[e]
def ua(n:Nat)(part:aL×aL->aL×aL)(lz:Bool)(rest:aL):aL:=jA part lz rest (n+1)
theorem aaz{part:aL×aL->aL×aL}(hp:dK n part)(lz:Bool)(rest:aL)(i:Nat)(hi:i<=n)(gs:List Int):
 ua n part lz rest i gs=(if lz then iu rest (part (gh,ua n part lz rest)).1 else iu (part (gh,ua n part lz rest)).1 rest) i gs:=by
 have e:∀gs,(part (gh,jA part lz rest n)).1 i gs=(part (gh,ua n part lz rest)).1 i gs:=
  (hp i _ _ hi).1 (fun _=>rfl) (fun j j1 j2 gs=>(agv hp lz rest n (n+1) j (by omega) (by omega) j2 gs).symm)
 show jA part lz rest (n+1) i gs=_
 rw[show jA part lz rest (n+1)=if lz then iu rest (part (gh,jA part lz rest n)).1 else iu (part (gh,jA part lz rest n)).1 rest from rfl]
 cases lz
 ·simp only[Aq,if_false,iu];rw[e]
 ·simp only[if_true,iu];rw[e]
theorem dK.loop(x:TX){part:aL×aL->aL×aL}(hp:dK x.l.length part)(lz:Bool):dK x.l.length (uP x part lz):=by
 have key:∀(i:Nat) (p q:aL×aL),xp x.l.length i p.2 q.2->∀d,xp x.l.length i (jA part lz p.2 d) (jA part lz q.2 d):=by
  intro i p q h d;induction d with
  |zero=>intro j _ _ gs;rfl
  |succ d ih=>
   intro j j1 j2 gs
   have e:∀gs,(part (gh,jA part lz p.2 d)).1 j gs=(part (gh,jA part lz q.2 d)).1 j gs:=
    (hp j _ _ j2).1 (fun _=>rfl) (ih.later (by omega))
   unfold jA
   cases lz
   ·simp only[Aq,if_false,iu];rw[e,h j j1 j2]
   ·simp only[if_true,iu];rw[e,h j j1 j2]
 intro i p q hi
 have lr:xp x.l.length (i+1) p.2 q.2->∀gs,(part (gh,jA part lz p.2 (x.l.length+1))).1 i gs=(part (gh,jA part lz q.2 (x.l.length+1))).1 i gs:=fun h=>
  (hp i _ _ hi).1 (fun _=>rfl) (key (i+1) p q h _)
 refine⟨fun h1 h2 gs=>?_,fun h gs=>?_⟩
 ·unfold uP qL
  cases lz
  ·simp only[Aq,if_false,oz,iu];rw[lr h2,h1]
  ·simp only[if_true,oz,iu];rw[lr h2,h1]
 ·unfold uP qL
  cases lz
  ·simp only[Aq,if_false,oz,iu];rw[lr (h.later (by omega)),h i (Ab _) hi]
  ·simp only[if_true,oz,iu];rw[lr (h.later (by omega)),h i (Ab _) hi]
theorem dK.wT(x:TX){part:aL×aL->aL×aL}(hp:dK x.l.length part)(lo hi:Int)(lz:Bool):dK x.l.length (zY x part lo hi lz):=by
 unfold zY;split
 ·exact(hp.iter _).comp (dK.loop x hp lz)
 ·exact(hp.iter _).comp (hp.nX lz _)
mutual
theorem SI(x:TX):∀c:CT,dK x.l.length (tM x c)
 |.node k sp fo nt ed gr lo hi lz cU=>by
  have h1:=afe x cU;have h2:=aff x cU;have h3:=afc x cU;unfold tM;by_cases k0:k=0
  ·simp only[k0,if_true];exact dK.take x sp fo nt
  ·by_cases k1:k=1
   ·simp only[k1,if_true];exact dK.rF x ed
   ·by_cases k2:k=2
    ·simp only[k2,if_true];by_cases hg:gr=0
     ·simp only[hg,if_true];exact h1
     ·simp only[hg,if_false];exact(dK.mark x _).comp (h1.comp (dK.mark x _))
    ·by_cases k3:k=3
     ·simp only[k3,if_true];exact h2
     ·by_cases k4:k=4
      ·simp only[k4,if_true];exact h3
      ·simp only[k0,k1,k2,k3,k4,if_false];exact dK.wT x h1 lo hi lz
theorem afe(x:TX):∀cs:List CT,dK x.l.length (yi x cs)
 | []=>dK.id
 |c::_=>SI x c
theorem aff(x:TX):∀cs:List CT,dK x.l.length (zR x cs)
 | []=>dK.id
 |c::cs=>(SI x c).comp (aff x cs)
theorem afc(x:TX):∀cs:List CT,dK x.l.length (yh x cs)
 | []=>dK.none
 | [c]=>SI x c
 |c::d::cs=>(SI x c).lW (afc x (d::cs))
end
