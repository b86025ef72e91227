/- Package whole's  -/
import Derived.Test.YtpdnofhackjfdaaGreatDoorP23
set_option linter.all false
set_option maxRecDepth 100000
set_option maxHeartbeats 8000000
namespace Go.Proofs.YtpdnofhackjfdaaGreatDoor
open Go.Proofs.Tryz
open Go.RowKit Go.Maps
attribute [local go_sem] E8
variable {P s:ByteArray} {aM wf wq wr ws:List Nat} {B L b aj d i i0 i1 ip j k o px r u x:Nat} {g:OG} {v:Value} {W w w3:World}
structure xM(g:OG)(b i0 i1:Nat):Prop where
 lt:b+1<g.aD.length
 e0:g.aD.getD b 0=i0
 e1:g.aD.getD (b+1) 0=i1
 le:i0<=i1
 in_:i1<=(aF g.x.s).length
 Ni:bd g.x.s i1<=bd g.x.s i0+4099
theorem xM.of(hg:g.Ok)(hb:b+1<g.aD.length):xM g b (g.aD.getD b 0) (g.aD.getD (b+1) 0):=
 ⟨hb,rfl,rfl,(hg.bg.step b hb).1,hg.bg.in_ _,(hg.bg.step b hb).2⟩
theorem xM.row(h:xM g b i0 i1)(hg:g.Ok)(h0:i0<=j)(h1:j<=i1):bd g.x.s i0<=bd g.x.s j/\bd g.x.s j-bd g.x.s i0<g.nr:=by
 have a:=fR g.x.s h0;have b:=fR g.x.s h1;have c:=h.Ni;have d:=iQ g.x.s j;have e:=hg.ac5;omega
theorem vW{n:Nat}(hl:ws.length=n*g.L)(h:r<n):r*g.L+g.L<=ws.length:=by
 rw[hl];have:=Bt g.L (show r+1<=n by omega);rw[Cs]at this;omega
theorem W_{r':Nat}(h:r≠r'):r'*L+L<=r*L\/r*L+L<=r'*L:=by
 rcases Nat.lt_or_gt_of_ne h with h1|h1
 ·have:=Bt L (show r+1<=r' by omega);rw[Cs]at this;omega
 ·have:=Bt L (show r'+1<=r by omega);rw[Cs]at this;omega
def gU(s:ByteArray)(i0 d:Nat):Nat:=bd s (i0+d)-bd s i0
def JN(s:ByteArray)(i0 n:Nat):List Value:=(List.range n).map fun d=>Value.int .i64 (gU s i0 d:Int)
structure zE(w3 wr:World)(s P:ByteArray)(i0 i1:Nat)(v:Value)(d ip:Nat):Prop where
 le:i0+d<=i1
 row:wr.ownsRow (w3.heap.size+1) 3 1 v d (JN s i0 d)
 iter:wr.heap[w3.heap.size]? =some (.stringIter P ip)
 kept:aa af w3 wr
 size:w3.heap.size+1<=wr.heap.size
theorem zE.CI{wr:World}(h:zE w3 wr s P i0 i1 v d ip)(GV:Nat):zE w3 (wr.iterAt w3.heap.size P GV) s P i0 i1 v d GV:=by
 have k:aa (fun i=>i=w3.heap.size) wr (wr.iterAt w3.heap.size P GV):=(aa.refl (fun i=>i=w3.heap.size) wr).iterAt (k:=w3.heap.size) (Or.inl rfl) P _;exact⟨h.le,bY h.row k (fun b hb hx=>by have:=(dE h.row hb).1;omega),Lib.iterAt_heap wr _ P _ _ h.iter,h.kept.bZ k (fun i hi he=>by omega),by rw[Fw];exact h.size⟩
theorem am6(s:ByteArray)(i0 d:Nat):JN s i0 (d+1)=JN s i0 d++[.int .i64 (gU s i0 d:Int)]:=by unfold JN;rw[Fx];simp
theorem zE.Ns{wr w7:World}{v':Value}(h:zE w3 wr s P i0 i1 v d ip)(aw:i0+d<i1)(k0:aa af wr W)
 (bt:w7.ownsRow (w3.heap.size+1) 3 1 v' (d+1) (JN s i0 d++[.int .i64 (gU s i0 d:Int)]))(hg:W.grownBy w7 v.ownBlock):zE w3 w7 s P i0 i1 v' (d+1) ip:=by
 have k7:aa (fun j=>v.ownBlock=some j) wr w7:=(k0.mono (fun i hx=>hx.elim)).eQ hg (fun j hj=>Or.inl hj);refine⟨aw,by rw[am6];exact bt,(k7.block _ (by have:=h.size;omega) (fun e=>by have:=(dE h.row e).1;omega)).trans h.iter,h.kept.bZ k7 (fun j hj he=>by have:=(dE h.row he).1;omega),Bb h.size k7.size⟩
theorem amJ(h:i0+d<i1)(hi:i1<=(aF s).length):gU s i0 d<(s.extract (bd s i0) (bd s i1)).size/\gU s i0 d+(Utf8.decode (s.extract (bd s i0) (bd s i1)) (gU s i0 d)).2=gU s i0 (d+1):=by
 have hk:i0+d<(aF s).length:=by omega
 have m1:=fR s (show i0<=i0+d by omega);have aw:=zM (s:=s) h hk;have pk:=sA hk;have hle:=fR s (show i0+d+1<=i1 by omega);have aP:(s.extract (bd s i0) (bd s i1)).size=bd s i1-bd s i0:=extract_size s _ _ (iQ s i1)
 have F_:Utf8.decode (s.extract (bd s i0) (bd s i1)) (bd s (i0+d)-bd s i0)=Utf8.decode s (bd s (i0+d)):=by
  have:=EH s (bd s i0) (bd s i1) (bd s (i0+d)-bd s i0) (iQ s i1) (by omega) (by rw[show bd s i0+(bd s (i0+d)-bd s i0)=bd s (i0+d) by omega];omega);rw[show bd s i0+(bd s (i0+d)-bd s i0)=bd s (i0+d) by omega]at this;exact this
 unfold gU;rw[F_,aP,show i0+(d+1)=i0+d+1 by omega];omega
theorem amI(h:i0+d=i1):¬gU s i0 d<(s.extract (bd s i0) (bd s i1)).size:=by
 have aP:(s.extract (bd s i0) (bd s i1)).size=bd s i1-bd s i0:=extract_size s _ _ (iQ s i1);unfold gU;rw[aP,h];omega
def Y_(ob bx cN n cb b f0 f1:Nat)(W:World):Prop:=W.cell? ⟨bx,0,none⟩=some (.pointer (some ⟨ob,0,none⟩))/\W.cell? ⟨ob,8,none⟩=some (.slice (some ⟨cN,0,none⟩) n cb)/\W.cell? ⟨cN,b,none⟩=some (.int .i64 (f0:Int))/\W.cell? ⟨cN,b+1,none⟩=some (.int .i64 (f1:Int))
def Zb(ob bx b4 rh nr cr WB L r fh n cf FB b f0:Nat)(W:World):Prop:=(W.cell? ⟨bx,0,none⟩=some (.pointer (some ⟨ob,0,none⟩))/\W.cell? ⟨ob,11,none⟩=some (.slice (some ⟨rh,0,none⟩) nr cr)/\W.cell? ⟨ob,9,none⟩=some (.slice (some ⟨fh,0,none⟩) n cf))/\W.cell? ⟨rh,r,none⟩=some (.slice (some ⟨WB,r*L,none⟩) L L)/\W.cell? ⟨fh,b+1,none⟩=some (.slice (some ⟨FB,(b+1)*L,none⟩) L L)/\W.cell? ⟨b4,0,none⟩=some (.int .i64 (f0:Int))
def Zc(ob bx b4 f0:Nat)(s:ByteArray)(W:World):Prop:=W.cell? ⟨bx,0,none⟩=some (.pointer (some ⟨ob,0,none⟩))/\W.cell? ⟨ob,3,none⟩=some (.string s)/\W.cell? ⟨b4,0,none⟩=some (.int .i64 (f0:Int))
theorem aa.putObj{S:Nat->Prop}{a:World}(h:aa S a w){l:Nat}(hl:a.heap.size<=l)(o:Obj):aa S a (w.putObj l o):=
 ⟨h.os,h.tape,h.output,by have:=h.size;simpa using this,fun k hk hs=>(Dh (by omega)).trans (h.block k hk hs)⟩
theorem alB(hg:g.Ok){bh:Nat}(hb:xM g b i0 i1)(hd:i0+d=i1)(hx:x<d)(xj:gU g.x.s i0 x=px)(iJ:px<g.nr)(AI:bh<g.nr)(hl:wq.length=g.nr*g.L)(hw:fY wq){H:Prop}(hH:H->bh=gU g.x.s i0 (x+1)/\uT g wq b (i0+(x+1))):
 Zf W g.WB (px*g.L) g.WB (bh*g.L) g.L wq (fun nx=>H->∀u:Nat,u<g.ms.length->gd nx 0 u=(decide (i0+x<g.x.n)&&dP g.ms g.x u (i0+x+1))):=by
 intro W' aM hk fy bj vy;have PY:=vW (g:=g) hl iJ;have Me:=vW (g:=g) hl AI;have ib:(splice wq (px*g.L) aM).length=wq.length:=Dg _ _ _ (by omega);have dR:=hb.in_;have aw:i0+x<(aF g.x.s).length:=by omega
 have bC:=pJ aw;have m1:=fR g.x.s (show i0<=i0+x by omega)
 have az:H->bh≠px:=fun h e=>by
  have:=(hH h).1;unfold gU at this xj;rw[show i0+(x+1)=i0+x+1 by omega]at this;omega
 by_cases e:bh=px
 ·refine⟨aM,bj,fun k ua=>?_,fun h=>absurd e (az h)⟩;have:=vy.cell (bh*g.L+k);rw[zi (by omega),y_ _ _ _ (by omega),if_pos (by subst e;omega)]at this;rw[this];subst e;rw[E9]
 ·have tW:=W_ (L:=g.L) (fun h=>e h.symm:px≠bh);refine⟨kZ wq (bh*g.L) g.L,hw.kZ _ _,fun k ua=>?_,fun h u hu=>?_⟩
  ·have:=vy.cell (bh*g.L+k);rw[zi (by omega),y_ _ _ _ (by omega),if_neg (by omega)]at this;rw[this,Rx ua]
  ·have jY:u/64<g.L:=by have:=hg.Iq;omega
   obtain⟨h1,h2⟩:=hH h;have h3:=h2 (i0+(x+1)) (Ab _) (by rw[hb.e1];omega) u hu;have e3:bd g.x.s (i0+(x+1))-g.from b=bh:=by unfold OG.from;rw[hb.e0,h1];rfl
   rw[e3]at h3;rw[Tt jY,h3];have ajk:i0+x<g.x.n:=aw;simp[ajk,Di]
theorem anK(hg:g.Ok)(hb:xM g b i0 i1)(hd:i0+d=i1)(hk:k<d)(xj:gU g.x.s i0 k=px)(iJ:px<g.nr)(hl:wq.length=g.nr*g.L)(fy:aM.length=g.L)(hr:uT g wq b (i0+(k+1)))(hc:∀u:Nat,u<g.ms.length->gd aM 0 u=dP g.ms g.x u (i0+k)):uT g (splice wq (px*g.L) aM) b (i0+k):=by
 intro j rG lN u hu;have PY:=vW (g:=g) hl iJ;have jY:u/64<g.L:=by have:=hg.Iq;omega
 rw[hb.e1]at lN;have dR:=hb.in_;by_cases e:j=i0+k
 ·subst e;have e3:bd g.x.s (i0+k)-g.from b=px:=by unfold OG.from;rw[hb.e0];exact xj
  rw[e3,O0 (by omega) (by omega)];exact hc u hu
 ·have az:px≠bd g.x.s j-g.from b:=by
   unfold OG.from
   rw[hb.e0,<-xj];have:=zM (s:=g.x.s) (show i0+k<j by omega) (by omega);have:=fR g.x.s (show i0<=i0+k by omega);unfold gU;omega
  have tW:=W_ (L:=g.L) az;rw[ZW (L:=g.L) (by omega) (by omega) jY];exact hr j (by omega) (by rw[hb.e1];exact lN) u hu
def afz{N:Nat}(bx B8:Nat)(p:Nat->Nat)(x:Iy N)(a':Act):Prop:=∃z0 z1 z3 z5 z6 z7 z9 z11 z12 z13 z14 z15 z16 z17 z18 z19 z20 z21 z22 z23 z24 z25 z26 z27 z28 z29 z30 z31 z32 z33 z34 z35 z36 z37 z38 z39 z40 z41 z42 z43 z44 z45 z46 z47 z48 z49 z50 z51 z52 z53 z54 z55 z56 z57 z58 z59 z60 z61 z62 z63 z64 z65 z66 z67 z68 z69 z70 z71 z72 z73 z74 z75 z76 z77 z78 z79 z80 z81 z82 z83 z84 z85 z86 z87 z88 z89 z90:Value,a'={tmps:=#[z0,z1,.pointer (some ⟨bx,0,none⟩),z3,.pointer (some ⟨bx+1,0,none⟩),z5,z6,z7,.pointer (some ⟨B8,0,none⟩),z9,.int .i64 (p x.1:Int),z11,z12,z13,z14,z15,z16,z17,z18,z19,z20,z21,z22,z23,z24,z25,z26,z27,z28,z29,z30,z31,z32,z33,z34,z35,z36,z37,z38,z39,z40,z41,z42,z43,z44,z45,z46,z47,z48,z49,z50,z51,z52,z53,z54,z55,z56,z57,z58,z59,z60,z61,z62,z63,z64,z65,z66,z67,z68,z69,z70,z71,z72,z73,z74,z75,z76,z77,z78,z79,z80,z81,z82,z83,z84,z85,z86,z87,z88,z89,z90],defers:=[]}
def Ir(g:OG)(w3:World)(B8 b i0 d:Nat)(pre:List (Iy d))(W:World):Prop:=
 aa (fun i=>i=g.WB) w3 W/\∃(bh:Nat) (wq:List Nat),aq W B8 #[.int .i64 (bh:Int)] 3/\bh<g.nr/\aq W g.WB (dg wq).toArray 207/\(wq.length=g.nr*g.L/\fY wq)/\(∀k,k<=d->pre.map (·.1)=ru k d->bh=gU g.x.s i0 k/\uT g wq b (i0+k))
theorem Ir.au(g:OG)(w3:World)(B8 b i0 d B:Nat)(hB:w3.heap.size<=B):OwnFrom B (Ir g w3 B8 b i0 d):=fun s W W' row h hg hr=>by
 obtain⟨k,bh,wq,h1,h2,h3,h4⟩:=h;exact⟨k.eQ hg (fun j e=>Or.inr (by have:=(hr j e).1;omega)),bh,wq,Tu B8 _ _ () W W' row h1 hg (fun r e=>(hr r e).2),h2,Tu g.WB _ _ () W W' row h3 hg (fun r e=>(hr r e).2),h4⟩
def Za(ob bx rh nr cr WB L px bh B8 f0:Nat)(W:World):Prop:=(W.cell? ⟨bx,0,none⟩=some (.pointer (some ⟨ob,0,none⟩))/\W.cell? ⟨ob,11,none⟩=some (.slice (some ⟨rh,0,none⟩) nr cr))/\W.cell? ⟨rh,px,none⟩=some (.slice (some ⟨WB,px*L,none⟩) L L)/\W.cell? ⟨rh,bh,none⟩=some (.slice (some ⟨WB,bh*L,none⟩) L L)/\W.cell? ⟨B8,0,none⟩=some (.int .i64 (bh:Int))/\W.cell? ⟨bx+1,0,none⟩=some (.int .i64 (f0:Int))
theorem akI(n:Nat)(hn:3<=n)(hg:g.Ok)(hO:il w g aj wf wr)(hb:xM g b i0 i1)(hF:zG g wf (b+1) i1):
 CallsIn Fence.wide n prog 89 #[.pointer (some ⟨g.ob,0,none⟩),.int .i64 (b:Int)] w fun e w'=>e=.returned (.tuple #[])/\∃xK,il w' g b wf xK/\uT g xK b i0/\aa (fun i=>i=g.ob\/i=g.WB) w w':=by
 have h1:1<=n:=by omega
 have vz:=hb.lt;have dw:=hg.bg.bJ;have aP:=hg.size;have HG:=ab hg;have HO:=ab hO;have HB:=ab hb;have HF:=ab hF;have aqu:=hO.rk.o.lt;have apS:=hO.bw.lt;have apU:=iQ g.x.s i0;have abq:=iQ g.x.s i1;have f10:=hO.rk.o.frozen 10;have Lm:w.cell? ⟨g.ob,10,none⟩=some (.int .i64 (aj:Int)):=hO.rk.o.cell 10;clear hg hO hb hF;refine callsIn_of_wp_marks func89 rfl trivial ?_ rfl;simp only[ntmps89,Dl,Av,A8,Nat.reduceAdd,Nat.reduceSub,De,Df,D2,Dm,C7,C0];refine wpIn_wide.2 ?_;go_wp2_with fail;have jl:(w.setCell ⟨g.ob,10,none⟩ (.int .i64 (b:Int))).heap.size=w.heap.size:=by simp[World.setCell]
 have K1:Hid (aa (fun i=>i=g.ob) w ((w.setCell ⟨g.ob,10,none⟩ (.int .i64 (b:Int))).alloc (.cells #[.pointer (some ⟨g.ob,0,none⟩)] 136))):=((aa.refl (fun i=>i=g.ob) w).setCell (p:=⟨g.ob,10,none⟩) (Or.inl rfl) _).alloc _;have O1:Hid (il ((w.setCell ⟨g.ob,10,none⟩ (.int .i64 (b:Int))).alloc (.cells #[.pointer (some ⟨g.ob,0,none⟩)] 136)) g b wf wr):=(HO.o.anX HG.o b).kept ((aa.refl af _).alloc _)
 have B1:Hid (aq ((w.setCell ⟨g.ob,10,none⟩ (.int .i64 (b:Int))).alloc (.cells #[.pointer (some ⟨g.ob,0,none⟩)] 136)) w.heap.size #[.pointer (some ⟨g.ob,0,none⟩)] 136):=by
  have:=aq.new (w.setCell ⟨g.ob,10,none⟩ (.int .i64 (b:Int))) #[.pointer (some ⟨g.ob,0,none⟩)] 136;rw[jl]at this;exact this
 have cU:((w.setCell ⟨g.ob,10,none⟩ (.int .i64 (b:Int))).alloc (.cells #[.pointer (some ⟨g.ob,0,none⟩)] 136)).heap.size=w.heap.size+1:=by rw[fO,jl]
 generalize((w.setCell ⟨g.ob,10,none⟩ (.int .i64 (b:Int))).alloc (.cells #[.pointer (some ⟨g.ob,0,none⟩)] 136))=w1 at*
 clear jl;clear f10 Lm HO;have e0:=HB.o.e0;have e1:=HB.o.e1
 have PS:Hid (∀W,aa af w1 W->Y_ g.ob w.heap.size g.cN g.aD.length g.cb b (bd g.x.s i0) (bd g.x.s i1) W):=fun W k=>by
  have O2:=O1.o.kept k;refine⟨(B1.o.kept k (fun h=>h)).cell 0,O2.rk.o.cell 8,?_,?_⟩
  ·rw[<-e0];exact O2.bg b (by omega)
  ·rw[<-e1];exact O2.bg (b+1) (by omega)
 clear e0 e1;have ak:=PS.o w1.drew (aa.refl af w1).drew;refine j9 (Ch (by kernel_rfl) (Cc (S:=Y_ g.ob w.heap.size g.cN g.aD.length g.cb b (bd g.x.s i0) (bd g.x.s i1)) _ _ _ _ ?_));refine ai 0 15 (.pointer (some ⟨g.ob,0,none⟩)) ak ?_;refine ai 1 16 (.pointer (some ⟨g.ob,0,none⟩)) ak ?_;refine ai 2 17 (.pointer (some ⟨g.ob,8,none⟩)) ak ?_;refine ai 3 18 (.slice (some ⟨g.cN,0,none⟩) g.aD.length g.cb) ak ?_;refine ai 4 19 (.int .i64 (b:Int)) ak ?_;refine pA 5 20 (.pointer (some ⟨g.cN,b,none⟩)) rfl rfl (by kernel_rfl) (by kernel_rfl) (by kernel_rfl) (fun _ _ _ h=>h) (Or.inl ⟨by rfl,fun W eT=>by obtain⟨s0,s1,s2,s3⟩:=eT;go_simp;intro hx;exact absurd hx (by omega)⟩) ak ?_;refine ai 6 21 (.int .i64 (bd g.x.s i0:Int)) ak ?_;refine ai 7 22 (.pointer (some ⟨g.ob,0,none⟩)) ak ?_;refine ai 8 23 (.pointer (some ⟨g.ob,0,none⟩)) ak ?_;refine ai 9 24 (.pointer (some ⟨g.ob,8,none⟩)) ak ?_;refine ai 10 25 (.slice (some ⟨g.cN,0,none⟩) g.aD.length g.cb) ak ?_;refine ai 11 26 (.int .i64 (b:Int)) ak ?_;refine pA 12 27 (.int .i64 ((b:Int)+1)) rfl rfl (by kernel_rfl) (by kernel_rfl) (by kernel_rfl) (fun _ _ _ h=>h) (Or.inl ⟨by rfl,fun W eT=>by obtain⟨s0,s1,s2,s3⟩:=eT;go_simp;rw[Cx];omega⟩) ak ?_;refine pA 13 28 (.pointer (some ⟨g.cN,b+1,none⟩)) rfl rfl (by kernel_rfl) (by kernel_rfl) (by kernel_rfl) (fun _ _ _ h=>h) (Or.inl ⟨by rfl,fun W eT=>by obtain⟨s0,s1,s2,s3⟩:=eT;go_simp;intro hx;exact absurd (hx (by omega)) (by omega)⟩) ak ?_;refine ai 14 29 (.int .i64 (bd g.x.s i1:Int)) ak ?_;simp only[Act.put,Aa,Ad,Ac];refine bQ 15 fun K hK=>?_
 go_simp;have kA:aa af w1 (w1.alloc (.cells #[.int .i64 0] 3)).drew:=((aa.refl af w1).alloc _).drew;refine hK.o _ _ (PS.o _ kA) (fun _=>?_);clear hK K;have kB:aa af w1 (w1.alloc (.cells #[.int .i64 (bd g.x.s i0:Int)] 3)).drew:=((aa.refl af w1).alloc _).drew;have B4:Hid (aq (w1.alloc (.cells #[.int .i64 (bd g.x.s i0:Int)] 3)).drew (w.heap.size+1) #[.int .i64 (bd g.x.s i0:Int)] 3):=by have:=aq.new w1 #[.int .i64 (bd g.x.s i0:Int)] 3;rw[cU]at this;exact this
 have gg:(w1.alloc (.cells #[.int .i64 (bd g.x.s i0:Int)] 3)).drew.heap.size=w.heap.size+1+1:=by simp[World.drew,cU]
 have O2:=ab (O1.o.kept kB);have B2:=ab (B1.o.kept kB (fun h=>h));have K2:=ab (K1.o.trans (kB.mono (fun _ h=>h.elim)));have KB:=ab kB;clear kA kB;refine bQ 16 fun K hK=>?_
 go_simp;refine hK.o _ _ (PS.o _ KB.o) (fun _=>?_);clear hK K;refine bQ 17 fun K hK=>?_
 go_simp;refine hK.o _ _ (PS.o _ KB.o) (fun _=>?_);clear hK K;refine At (by kernel_rfl) ?_ _;refine jy ?_;generalize(w1.alloc (.cells #[.int .i64 (bd g.x.s i0:Int)] 3)).drew=w2 at*;clear PS ak KB O1 B1 K1 cU;go_wp2_with fail;obtain⟨r,kL⟩:∃r,Hid (bd g.x.s i1=bd g.x.s i0+r):=⟨bd g.x.s i1-bd g.x.s i0,by show _=_;have:=fR g.x.s HB.o.le;omega⟩
 have sX:r<g.nr:=by have:=HB.o.row HG.o HB.o.le (Ab _);have:=kL.o;omega
 have zD:Hid (∀W,aa af w2 W->Zb g.ob w.heap.size (w.heap.size+1) g.rh g.nr g.cr g.WB g.L r g.fh g.aD.length g.cf g.FB b (bd g.x.s i0) W):=fun W k=>by
  have O3:=O2.o.kept k;exact⟨⟨(B2.o.kept k (fun h=>h)).cell 0,O3.rk.o.cell 11,O3.rk.o.cell 9⟩,O3.rh r sX,O3.fh (b+1) vz,(B4.o.kept k (fun h=>h)).cell 0⟩
 have ak:=zD.o w2.drew (aa.refl af w2).drew;refine j9 (gW (S:=Zb g.ob w.heap.size (w.heap.size+1) g.rh g.nr g.cr g.WB g.L r g.fh g.aD.length g.cf g.FB b (bd g.x.s i0)) 17 (by kernel_rfl) rfl rfl rfl (by kernel_rfl) (by kernel_rfl) ?_);refine ai 0 30 (.pointer (some ⟨g.ob,0,none⟩)) ak ?_;refine ai 1 31 (.pointer (some ⟨g.ob,0,none⟩)) ak ?_;refine ai 2 32 (.pointer (some ⟨g.ob,11,none⟩)) ak ?_;refine ai 3 33 (.slice (some ⟨g.rh,0,none⟩) g.nr g.cr) ak ?_;refine ai 4 34 (.int .i64 (bd g.x.s i1:Int)) ak ?_;refine ai 5 35 (.int .i64 (bd g.x.s i0:Int)) ak ?_;refine pA 6 36 (.int .i64 (r:Int)) rfl rfl (by kernel_rfl) (by kernel_rfl) (by kernel_rfl) (fun _ _ _ h=>h) (Or.inl ⟨by rfl,fun W eT=>by obtain⟨⟨s0,s1,s2⟩,s3,s4,s5⟩:=eT;go_simp;rw[Cx];have:=kL.o;omega⟩) ak ?_;refine ai 7 37 (.pointer (some ⟨g.rh,r,none⟩)) ak ?_;refine ai 8 38 (.slice (some ⟨g.WB,r*g.L,none⟩) g.L g.L) ak ?_;refine ai 9 39 (.pointer (some ⟨g.ob,0,none⟩)) ak ?_;refine ai 10 40 (.pointer (some ⟨g.ob,0,none⟩)) ak ?_;refine ai 11 41 (.pointer (some ⟨g.ob,9,none⟩)) ak ?_;refine ai 12 42 (.slice (some ⟨g.fh,0,none⟩) g.aD.length g.cf) ak ?_;refine ai 13 43 (.int .i64 (b:Int)) ak ?_;refine pA 14 44 (.int .i64 ((b:Int)+1)) rfl rfl (by kernel_rfl) (by kernel_rfl) (by kernel_rfl) (fun _ _ _ h=>h) (Or.inl ⟨by rfl,fun W eT=>by obtain⟨⟨s0,s1,s2⟩,s3,s4,s5⟩:=eT;go_simp;rw[Cx];omega⟩) ak ?_;refine pA 15 45 (.pointer (some ⟨g.fh,b+1,none⟩)) rfl rfl (by kernel_rfl) (by kernel_rfl) (by kernel_rfl) (fun _ _ _ h=>h) (Or.inl ⟨by rfl,fun W eT=>by obtain⟨⟨s0,s1,s2⟩,s3,s4,s5⟩:=eT;go_simp;intro hx;exact absurd (hx (by omega)) (by omega)⟩) ak ?_;refine ai 16 46 (.slice (some ⟨g.FB,(b+1)*g.L,none⟩) g.L g.L) ak ?_;simp only[Act.put,Aa,Ad,Ac];refine At (by kernel_rfl) ?_ _;unfold eN;refine afl (.tmp 38) (.tmp 46) 173 173 rfl 207 underlying173 (by kernel_rfl) g.WB (r*g.L) g.L g.L g.L g.FB ((b+1)*g.L) rfl rfl wr 207 O2.o.bw (kZ wf ((b+1)*g.L) g.L) ?l1 ?l2 ?l3 ?_
 case l1=>exact JT (vW O2.o.fl.1 vz)
 case l2=>
  intro k hk;have hf:=vW (g:=g) O2.o.fl.1 vz;have:=O2.o.bf.cell ((b+1)*g.L+k);rw[zi (by omega)]at this;rw[Rx hk];exact this
 case l3=>exact vW O2.o.wl.1 sX
 intro w3 FJ bA;have Ju:aa (fun i=>i=g.WB) w2 w3:=(aa.refl (fun i=>i=g.WB) w2).drew.trans bA;have ml:=vW (g:=g) O2.o.wl.1 sX;have pf:=vW (g:=g) O2.o.fl.1 vz;have ib:(kZ wf ((b+1)*g.L) g.L).length=g.L:=JT pf;have O3:Hid (il w3 g b wf (splice wr (r*g.L) (kZ wf ((b+1)*g.L) g.L))):=O2.o.W8 HG.o Ju FJ ⟨by rw[Dg _ _ _ (by rw[ib];exact ml)];exact O2.o.wl.1,O2.o.wl.2.splice (O2.o.fl.2.kZ _ _) _⟩
 have R3:Hid (zG g (splice wr (r*g.L) (kZ wf ((b+1)*g.L) g.L)) r i1):=fun u hu=>by
  have jY:u/64<g.L:=by have:=HG.o.Iq;omega
  rw[O0 (by rw[ib];exact ml) (by rw[ib];exact jY),Tt jY];exact HF.o u hu
 have B3:=ab (B2.o.kept Ju (by omega));have R8:=ab (B4.o.kept Ju (by omega));have K3:Hid (aa (fun i=>i=g.ob\/i=g.WB) w w3):=(K2.o.mono (fun i h=>Or.inl h)).trans (Ju.mono (fun i h=>Or.inr h));have rL:w.heap.size+1+1<=w3.heap.size:=by have:=Ju.size;omega
 generalize splice wr (r*g.L) (kZ wf ((b+1)*g.L) g.L)=wr1 at*
 clear FJ bA Ju O2 B2 B4 K2 zD ak HF ml pf ib gg;refine jy ?_;simp only[Ak,Ah,Ai,Act.put,Aa,Ad,Ac];go_wp2_with fail;have Zk:Hid (∀W,aa af w3 W->Zc g.ob w.heap.size (w.heap.size+1) (bd g.x.s i0) g.x.s W):=fun W k=>⟨(B3.o.kept k (fun h=>h)).cell 0,(O3.o.kept k).rk.o.cell 3,(R8.o.kept k (fun h=>h)).cell 0⟩
 have ak:=Zk.o w3.drew (aa.refl af w3).drew;have aql:=fR g.x.s HB.o.le;refine j9 (gW (S:=Zc g.ob w.heap.size (w.heap.size+1) (bd g.x.s i0) g.x.s) 8 (by kernel_rfl) rfl rfl rfl (by kernel_rfl) (by kernel_rfl) ?_);refine ai 0 48 (.pointer (some ⟨g.ob,0,none⟩)) ak ?_;refine ai 1 49 (.pointer (some ⟨g.ob,0,none⟩)) ak ?_;refine ai 2 50 (.pointer (some ⟨g.ob,3,none⟩)) ak ?_;refine ai 3 51 (.pointer (some ⟨g.ob,3,none⟩)) ak ?_;refine ai 4 52 (.string g.x.s) ak ?_;refine ai 5 53 (.int .i64 (bd g.x.s i0:Int)) ak ?_;refine ai 6 54 (.int .i64 (bd g.x.s i1:Int)) ak ?_;refine ai 7 55 (.string (g.x.s.extract (bd g.x.s i0) (bd g.x.s i1))) ak ?_;simp only[Act.put,Aa,Ad,Ac];refine At (by kernel_rfl) ?_ _;unfold eN;simp only[Ak,Ah,Ai];go_simp;refine jy ?_;obtain⟨ii,cS,dm,dp,c_⟩:=Bp Tryz.GU
 have du:Hid (zE w3 (w3.drew.iter (g.x.s.extract (bd g.x.s i0) (bd g.x.s i1)) 0) g.x.s (g.x.s.extract (bd g.x.s i0) (bd g.x.s i1)) i0 i1 (.slice none 0 0) 0 (gU g.x.s i0 0)):=by
  refine⟨HB.o.le,A6 _ _ _ _,?_,(aa.refl af w3).drew.alloc _,by simp[World.iter]⟩;have:=World.iter_heap w3.drew (g.x.s.extract (bd g.x.s i0) (bd g.x.s i1)) 0;have e:gU g.x.s i0 0=0:=by unfold gU;simp
  rw[e];exact this
 have PN:=ab fun d (h:i0+d<i1)=>amJ (s:=g.x.s) h HB.o.in_
 have PE:=ab fun d (h:i0+d=i1)=>amI (s:=g.x.s) h
 generalize hP:g.x.s.extract (bd g.x.s i0) (bd g.x.s i1)=PP at*
 clear hP Zk ak;generalize Jn:w3.drew.iter PP 0=w4 at*;clear Jn;go_wp2_with fail;have oy:=HB.o.in_;have Qz:=Rw g.x.s;go_loopg [6] (i1-i0) (fun kk v wq=>∃d:Nat,Hid (zE w3 wq g.x.s PP i0 i1 v d (gU g.x.s i0 d))/\kk=i1-i0-d)
 case atStart=>exact⟨0,du,rfl⟩
 case round=>
  obtain⟨d,tI,eZ⟩:=hrel;clear du;have hd:=tI.o.le;by_cases aw:i0+d<i1
  ·obtain⟨pn1,pn2⟩:=PN.o d aw;have hn:=(fun ty=>Lib.run_next_any_at (P:=prog) wr w3.heap.size PP (gU g.x.s i0 d) ty tI.o.iter pn1);rw[pn2]at hn;have KD:=ab (tI.o.CI (gU g.x.s i0 (d+1)));obtain⟨w5,MK⟩:∃w5,w5=wr.iterAt w3.heap.size PP (gU g.x.s i0 (d+1)):=⟨_,rfl⟩
   rw[<-MK]at hn KD;clear MK tI pn1 pn2;generalize((Utf8.decode PP (gU g.x.s i0 d)).1:Int)=cc at hn;obtain⟨ao,c,rfl⟩:=cK KD.o.row;have PU:=(ab fun(W w7:World) (v':Value)=>KD.o.Ns (W:=W) (w7:=w7) (v':=v') aw);have fW:=ab KD.o.row;have qZ:=ab KD.o.size;go_wp2_with (at_builtin;refine Ap _ rfl _ _ 22 rfl (w3.heap.size+1) 3 ii _ 1 8 underlying22 cS dm dp c_ rfl (by decide) _ _ _ rfl (fW.o.alloc _) ⟨w5.heap.size,0,none⟩ 1 1 [.int .i64 (gU g.x.s i0 d:Int)] rfl rfl ?c1 ?c2 ?c3 ?c4 ?c5 ?_)
   case c1=>exact Hc _ _
   case c2=>exact vI _
   case c3=>unfold maxLen;omega
   case c4=>omega
   case c5=>have:=qZ.o;simp;omega
   intro v' w7 bH b_ dS cB;obtain⟨jg,c',rfl⟩:=cK bH;have ax:=ab (PU.o _ _ _ ((aa.refl af w5).alloc _) bH b_);clear bH b_ dS cB;go_wp2_with fail;go_roundg (i1-i0-(d+1))
   case measure=>omega
   case rel=>exact⟨d+1,ax,rfl⟩
  ·have Mc:i0+d=i1:=(by omega);have hn:=(fun ty=>Lib.run_next_end_at (P:=prog) wr w3.heap.size PP (gU g.x.s i0 d) ty tI.o.iter (PE.o d Mc));obtain⟨ao,c,rfl⟩:=cK tI.o.row;have Jm:(bd g.x.s i1:Int)-(bd g.x.s i0:Int)=(r:Int):=by have:=kL.o;omega
   have c4:wr.cell? ⟨w.heap.size+1,0,none⟩=some (.int .i64 (bd g.x.s i0:Int)):=(R8.o.kept tI.o.kept (fun h=>h)).cell 0;have DD:=ab Mc;clear Mc eZ hd aw;go_wp2_with fail;refine(afY _ ao d c).mono ?_;rintro e w6 ⟨rfl,Jo⟩
   obtain⟨pb,aqy,ajB,ha,jj⟩:∃pb,w3.heap.size<=pb/\pb<wr.heap.size/\(0<d->ao=some ⟨pb,0,none⟩)/\∀e,e<d->wr.cell? ⟨pb,e,none⟩=some (.int .i64 (gU g.x.s i0 e:Int)):=by
    by_cases h0:0<d
    ·obtain⟨gb,c',hv,l1,l2,l3,l4,l5⟩:=mG tI.o.row h0;have BM:ao=some ⟨gb,0,none⟩:=(by injection hv);refine⟨gb,by omega,l2,fun _=>BM,fun e he=>?_⟩;rw[l4 e he];unfold JN;simp[he]
    ·exact⟨w3.heap.size,Ab _,tI.o.size,fun h=>absurd h h0,fun e he=>by omega⟩
   have aqK:=tI.o.size;have k36:aa af w3 w6:=by rw[Jo];exact(tI.o.kept.alloc _).alloc _
   have ajN:w6.heap.size=wr.heap.size+1+1:=by rw[Jo];simp
   have ZQ:aq w6 wr.heap.size #[.int .i64 (r:Int)] 3:=by rw[Jo];exact(aq.new wr _ _).alloc _
   have cBs:w6.cell? ⟨wr.heap.size+1,0,none⟩=some (.slice ao d c):=by
    rw[Jo];have:=(aq.new (wr.alloc (.cells #[.int .i64 (r:Int)] 3)) #[.slice ao d c] 22).cell 0;rw[fO]at this;exact this
   have I2:∀e,e<d->w6.cell? ⟨pb,e,none⟩=some (.int .i64 (gU g.x.s i0 e:Int)):=fun e he=>by
    have k:aa af wr w6:=by rw[Jo];exact((aa.refl af wr).alloc _).alloc _
    exact(k.cell (p:=⟨pb,e,none⟩) ajB (fun h=>h)).trans (jj e he)
   have ab1:(wr.alloc (.cells #[.int .i64 (r:Int)] 3)).heap.size=wr.heap.size+1:=fO _ _;rw[ab1];have hdn:d<=10000000:=by have:=DD.o;omega
   have BI:Hid (Ir g w3 wr.heap.size b i0 d [] w6):=by
    have O6:=O3.o.kept k36;refine⟨k36.mono (fun _ h=>h.elim),r,wr1,ZQ,sX,O6.bw,O6.wl,fun k hk he=>?_⟩;have hkd:k=d:=by have:=congrArg List.length he;rw[aar]at this;simp at this;omega
    subst hkd;have Mc:=DD.o;refine⟨by have:=kL.o;unfold gU;rw[Mc];omega,fun j rG lN u hu=>?_⟩;rw[HB.o.e1]at lN;have hj:j=i1:=(by omega);subst hj;have e2:bd g.x.s j-g.from b=r:=by unfold OG.from;rw[HB.o.e0];have:=kL.o;omega
    rw[e2];exact R3.o u hu
   have K6:Hid (aa (fun i=>i=g.ob\/i=g.WB) w w3):=K3;have apR:g.WB<w3.heap.size:=(by omega);clear Jo jj ab1 ZQ hn tI c4 Jm;go_wp2_with fail;refine(wpIn_wide (n:=n)).1 ?_
   refine wpIn_rangeFunc_ownH rfl h1 (gf:=142) (lb:=#[.pointer (some ⟨wr.heap.size+1,0,none⟩)]) rfl trivial (enters_of func142 (by kernel_rfl) rfl)
    (afZ (n-1) (by omega) (wr.heap.size+1) pb d c (gU g.x.s i0) ao ha (by omega) w6 (by omega) (by omega) cBs I2) jR.trans (jR.putObj (by omega) (by omega)) (Fv _ _) (fun _=>rfl)
    (Ir g w3 wr.heap.size b i0 d)
    (fun _ _ _=>False)
    (Ir.au g w3 wr.heap.size b i0 d _ (by omega))
    (fun _ _ _ _ _ hs _ _=>hs)
    BI.o
    (fun x a' W=>afz w.heap.size wr.heap.size (gU g.x.s i0) x a')
    (fun x a' _ X Y row hs hg hr=>hs)
    ?assign ?body ?done ?stop
   case assign=>
    rintro l pre x W K hI hK;simp only[OV];gi_wp2;exact hK _ _ ((KeepsOthers.refl _).from _) (jR.refl _ _ _) hI ⟨_,_,_,_,_,_,_,_,_,_,_,_,_,_,_,_,_,_,_,_,_,_,_,_,_,_,_,_,_,_,_,_,_,_,_,_,_,_,_,_,_,_,_,_,_,_,_,_,_,_,_,_,_,_,_,_,_,_,_,_,_,_,_,_,_,_,_,_,_,_,_,_,_,_,_,_,_,_,_,_,_,_,_,_,_,_,_,rfl⟩
   case body=>
    rintro l pre x a' W hl ⟨rr,hr⟩ ⟨kW,bh,wq,PL,AI,pd,qJ,Qw⟩ ⟨z0,z1,z3,z5,z6,z7,z9,z11,z12,z13,z14,z15,z16,z17,z18,z19,z20,z21,z22,z23,z24,z25,z26,z27,z28,z29,z30,z31,z32,z33,z34,z35,z36,z37,z38,z39,z40,z41,z42,z43,z44,z45,z46,z47,z48,z49,z50,z51,z52,z53,z54,z55,z56,z57,z58,z59,z60,z61,z62,z63,z64,z65,z66,z67,z68,z69,z70,z71,z72,z73,z74,z75,z76,z77,z78,z79,z80,z81,z82,z83,z84,z85,z86,z87,z88,z89,z90,rfl⟩ aw;have OW:=ab (O3.o.W8 HG.o kW pd qJ);have hx:=x.2;have dO:=HB.o.row HG.o (j:=i0+x.1) (by omega) (by have:=DD.o;omega);have xj:gU g.x.s i0 x.1=bd g.x.s (i0+x.1)-bd g.x.s i0:=rfl;have KG:Hid (bd g.x.s (i0+x.1)=bd g.x.s i0+gU g.x.s i0 x.1):=by show _=_;omega
    have iJ:gU g.x.s i0 x.1<g.nr:=(by omega);clear dO xj;generalize Gr:gU g.x.s i0 x.1=px at*;have Oh:=ab Gr;clear Gr;have B3W:=ab (B3.o.kept kW (by omega));have B4W:=ab (R8.o.kept kW (by omega));have DA:=ab PL
    have OE:Hid (∀W',aa af W W'->Za g.ob w.heap.size g.rh g.nr g.cr g.WB g.L px bh wr.heap.size (bd g.x.s i0) W'):=fun W' k=>by
     have O7:=OW.o.kept k;exact⟨⟨(B3W.o.kept k (fun h=>h)).cell 0,O7.rk.o.cell 11⟩,O7.rh px iJ,O7.rh bh AI,(DA.o.kept k (fun h=>h)).cell 0,(B4W.o.kept k (fun h=>h)).cell 0⟩
    have ak:=OE.o W.drew (aa.refl af W).drew;gi_wp2;refine apB (apC (S:=Za g.ob w.heap.size g.rh g.nr g.cr g.WB g.L px bh wr.heap.size (bd g.x.s i0)) 18 (by kernel_rfl) (akj _) (by kernel_rfl) rfl rfl rfl (by kernel_rfl) (by kernel_rfl) ?_);refine ai 0 71 (.pointer (some ⟨g.ob,0,none⟩)) ak ?_;refine ai 1 72 (.pointer (some ⟨g.ob,0,none⟩)) ak ?_;refine ai 2 73 (.pointer (some ⟨g.ob,0,none⟩)) ak ?_;refine ai 3 74 (.pointer (some ⟨g.ob,11,none⟩)) ak ?_;refine ai 4 75 (.slice (some ⟨g.rh,0,none⟩) g.nr g.cr) ak ?_;refine ai 5 76 (.int .i64 (px:Int)) ak ?_;refine ai 6 77 (.pointer (some ⟨g.rh,px,none⟩)) ak ?_;refine ai 7 78 (.slice (some ⟨g.WB,px*g.L,none⟩) g.L g.L) ak ?_;refine ai 8 79 (.pointer (some ⟨g.ob,0,none⟩)) ak ?_;refine ai 9 80 (.pointer (some ⟨g.ob,0,none⟩)) ak ?_;refine ai 10 81 (.pointer (some ⟨g.ob,11,none⟩)) ak ?_;refine ai 11 82 (.slice (some ⟨g.rh,0,none⟩) g.nr g.cr) ak ?_;refine ai 12 83 (.int .i64 (bh:Int)) ak ?_;refine ai 13 84 (.pointer (some ⟨g.rh,bh,none⟩)) ak ?_;refine ai 14 85 (.slice (some ⟨g.WB,bh*g.L,none⟩) g.L g.L) ak ?_;refine ai 15 86 (.int .i64 (bd g.x.s i0:Int)) ak ?_;refine ai 16 87 (.int .i64 (px:Int)) ak ?_;refine pA 17 88 (.int .i64 (bd g.x.s (i0+x.1):Int)) rfl rfl (by kernel_rfl) (by kernel_rfl) (by kernel_rfl) (fun _ _ _ h=>h) (Or.inl ⟨by rfl,fun W eT=>by obtain⟨⟨s0,s1⟩,s2,s3,s4,s5⟩:=eT;go_simp;rw[Cx];have:=KG.o;have:=iQ g.x.s (i0+x.1);omega⟩) ak ?_;simp only[Act.put,Aa,Ad,Ac];refine At (by kernel_rfl) ?_ _;unfold eN;simp only[Ak,Ah,Ai];go_simp
    have GG:=ad3 (c1:=g.L) (c2:=g.L) (i:=i0+x.1) (H:=pre.map (·.1)=ru (x.1+1) d) (OW.o.rk.kept ((aa.refl af W).drew) (fun h=>h) (fun h=>h) (fun _ _ _ h=>h) (fun h=>h) (fun h=>h)) HG.o.fL HG.o.q HG.o.bJ (by omega) (show i0+x.1<=(aF g.x.s).length by have:=DD.o;have:=HB.o.in_;omega) (CX.alJ (by have:=DD.o;have:=HB.o.in_;have:=x.2;omega)) HG.o.Iq
     (show aq W.drew g.WB (dg wq).toArray 207 from pd) (vW qJ.1 iJ) HG.o.Lf (alB HG.o HB.o DD.o hx Oh.o iJ AI qJ.1 qJ.2 (fun h=>Qw (x.1+1) hx h))
    refine GG.mono ?_;rintro e w7 ⟨rfl,gP,aM,fy,bj,yo,vx⟩;dsimp only;refine jy ?_;have k7:aa (fun i=>i=g.WB) W w7:=(aa.refl (fun i=>i=g.WB) W).drew.trans gP;have hWs:=kW.size;have OU:aq w7 wr.heap.size #[.int .i64 (bh:Int)] 3:=PL.kept k7 (by omega);have c87:w7.cell? ⟨wr.heap.size,0,none⟩=some (.int .i64 (bh:Int)):=OU.cell 0;have f87:=OU.frozen 0;have hW8:wr.heap.size<W.heap.size:=PL.lt;have kS:aa (fun i=>i=g.WB\/i=wr.heap.size) W (w7.setCell ⟨wr.heap.size,0,none⟩ (.int .i64 (px:Int))):=aa.setCell (S:=fun i=>i=g.WB\/i=wr.heap.size) (k7.mono (fun i h=>Or.inl h)) (p:=⟨wr.heap.size,0,none⟩) (Or.inl (Or.inr rfl)) _
    have ax:Hid (KeepsFrom w6.heap.size W (w7.setCell ⟨wr.heap.size,0,none⟩ (.int .i64 (px:Int)))/\jR (wr.heap.size+1) pb W (w7.setCell ⟨wr.heap.size,0,none⟩ (.int .i64 (px:Int)))/\Ir g w3 wr.heap.size b i0 d (pre++[x]) (w7.setCell ⟨wr.heap.size,0,none⟩ (.int .i64 (px:Int)))):=by
     have Jj:=k7.size;refine⟨⟨by have:=kS.size;exact this,fun k o hB hk ho=>(kS.block k ((Am.1 hk).1) (by omega)).trans hk⟩,⟨kS.block _ (by have:=(Am.1 hr).1;omega) (by omega),kS.block _ (by omega) (by omega)⟩,(kW.trans k7).setCell (p:=⟨wr.heap.size,0,none⟩) (Or.inr (by show w3.heap.size<=wr.heap.size;omega)) _,px,splice wq (px*g.L) aM,?_,iJ,?_,⟨by rw[Dg _ _ _ (by rw[fy];exact vW qJ.1 iJ)];exact qJ.1,qJ.2.splice bj _⟩,fun k hk he=>?_⟩
     ·have:=OU.setCell 0 (.int .i64 (px:Int));simpa using this
     ·exact yo.kept ((aa.refl (fun i=>i=wr.heap.size) w7).setCell (p:=⟨wr.heap.size,0,none⟩) (Or.inl rfl) _) (by omega)
     ·rw[Ci]at he;obtain⟨aU,VM,nN⟩:=ahm hk he;have VM:x.1=k:=VM;rw[VM]at vx Oh;obtain⟨h2,h3⟩:=Qw (k+1) aU nN;exact⟨Oh.o.symm,anK HG.o HB.o DD.o aU Oh.o iJ qJ.1 fy h3 (vx nN)⟩
    clear vx yo bj fy k7 kS OU gP;gi_wp2;exact ax.o
   case done=>
    rintro D ys W hD hys ⟨kW,bh,wq,PL,AI,pd,qJ,Qw⟩ hK;gi_wp2;refine⟨by simp,.inl ⟨_,_,rfl,run_takeDeferred hK,?_⟩⟩;have Jk:=kW.size;have kP:aa (fun i=>i=g.WB) w3 (W.putObj D (.deferred none)):=kW.putObj (by omega) _;have hbP:aq (W.putObj D (.deferred none)) g.WB (dg wq).toArray 207:=(Dh (by omega)).trans pd;refine⟨_,Dj rfl _ _ _,rfl,wq,O3.o.W8 HG.o kP hbP qJ,?_,K3.o.trans (kP.mono (fun i h=>Or.inr h))⟩;have:=(Qw 0 (Ao _) hys).2;simpa using this
   case stop=>
    rintro D c pre W _ _ h _;exact h.elim
theorem acD(hg:g.Ok)(hO:il w g aj wf wr)(hb:b+1<g.aD.length)(hF:zG g wf (b+1) (g.aD.getD (b+1) 0)):
 Calls prog 89 #[.pointer (some ⟨g.ob,0,none⟩),.int .i64 (b:Int)] w fun e w'=>e=.returned (.tuple #[])/\∃xK,il w' g b wf xK/\uT g xK b (g.aD.getD b 0)/\aa (fun i=>i=g.ob\/i=g.WB) w w':=
 Ga.1 (akI 6 (by omega) hg hO (xM.of hg hb) hF)
structure oV(w:World)(g:OG)(aj:Nat)(wf wr:List Nat):Prop where
 at_:il w g aj wf wr
 lt:aj+1<g.aD.length
 LF:∀k,k<g.aD.length->zG g wf k (g.aD.getD k 0)
 rows:uT g wr aj (g.aD.getD aj 0)
theorem oV.kept{w':World}(h:oV w g aj wf wr)(k:aa af w w'):oV w' g aj wf wr:=⟨h.at_.kept k,h.lt,h.LF,h.rows⟩
theorem Ts(hi:i<=(aF s).length)(hj:j<=(aF s).length):bd s i<bd s j↔i<j:=by
 constructor
 ·intro h;refine Nat.lt_of_not_le fun hle=>?_
  have:=fR s hle;omega
 ·intro h;exact zM h (by omega)
theorem abn(hg:g.Ok)(h:il w g aj wf wr)(hr:r<g.nr)(hu:u<g.ms.length)(m:Nat):
 Calls prog 90 #[.slice (some ⟨g.WB,r*g.L,none⟩) g.L g.L,.int .i64 (u:Int)] (w.drewN m) fun e w'=>e=.returned (.bool (gd wr (r*g.L) u))/\w'=w.drewN m:=by
 have hf:=vW (g:=g) h.wl.1 hr;have jY:u/64<g.L:=by have:=hg.Iq;omega
 have hc:(w.drewN m).cell? ⟨g.WB,r*g.L+u/64,none⟩=some (.int .u64 (wr.getD (r*g.L+u/64) 0:Nat)):=by
  have:=h.bw.cell (r*g.L+u/64);rw[zi (by omega)]at this;exact this
 have dw:=hg.bJ;exact UI (w.drewN m) g.WB (r*g.L) g.L g.L _ u (h.wl.2.getD _) jY (by omega) hc
theorem TF{wd:List Nat}(hg:g.Ok)(hO:oV w g aj wf wd)(hu:u<g.ms.length)(hi:i<=(aF g.x.s).length)(nG:g.aD.getD aj 0<=i):
 Calls prog 61 #[.pointer (some ⟨g.ob,0,none⟩),.int .i64 (u:Int),.int .i64 (bd g.x.s i:Int)] w fun e w'=>e=.returned (.bool (dP g.ms g.x u i))/\∃Li p_,oV w' g Li wf p_/\g.aD.getD Li 0<=i/\aa (fun i=>i=g.ob\/i=g.WB) w w':=by
 have UQ:=hO.lt;have dw:=hg.bg.bJ;have aP:=hg.size;have PQ:=iQ g.x.s i;have Lm:w.cell? ⟨g.ob,10,none⟩=some (.int .i64 (aj:Int)):=hO.at_.rk.o.cell 10;have c8:w.cell? ⟨g.ob,8,none⟩=some (.slice (some ⟨g.cN,0,none⟩) g.aD.length g.cb):=hO.at_.rk.o.cell 8;have HG:=ab hg;have HO:=ab hO;have DB:=ab nG;clear hg hO nG;go_in;go_wp2_with fail;go_loopg [7] (g.aD.length-aj) (fun kk v wq=>∃k:Nat,v=.int .i64 (k:Int)/\k+1<g.aD.length/\aj<=k/\kk=g.aD.length-k/\Hid (g.aD.getD k 0<=i)/\wq=w)
 case atStart=>exact⟨aj,rfl,UQ,Ab _,rfl,DB,rfl⟩
 case round=>
  obtain⟨k,rfl,aU,aN,eZ,HK,hww⟩:=hrel;have ajS:w=wr:=hww.symm;subst ajS;clear hww;have tG:=ab (HG.o.bg.in_ (k+1));have cb:w.cell? ⟨g.cN,k+1,none⟩=some (.int .i64 (bd g.x.s (g.aD.getD (k+1) 0):Int)):=HO.o.at_.bg (k+1) aU;have vy:=iQ g.x.s (g.aD.getD (k+1) 0);obtain⟨b1,ix⟩:∃b1,Hid (bd g.x.s (g.aD.getD (k+1) 0)=b1):=⟨_,(rfl:_=_)⟩
  rw[ix.o]at cb vy;by_cases ox:b1<bd g.x.s i
  ·have bA:k+1+1<g.aD.length:=by
    have wZ:g.aD.getD (k+1) 0<i:=(Ts tG.o hi).1 (by rw[ix.o];exact ox);refine Nat.lt_of_not_le fun hle=>?_
    have e:k+1=g.aD.length-1:=(by omega);have:=HG.o.bg.eU;rw[<-e]at this;omega
   have HKI:Hid (g.aD.getD (k+1) 0<=i):=by
    have wZ:g.aD.getD (k+1) 0<i:=(Ts tG.o hi).1 (by rw[ix.o];exact ox);show _<=_
    omega
   have ai1:(b1:Int)<(bd g.x.s i:Int):=(by omega);go_wp2_with fail;go_roundg (g.aD.length-(k+1))
   case measure=>omega
   case rel=>exact⟨k+1,by simp,bA,by omega,rfl,HKI,rfl⟩
  ·have YD:Hid (i<=g.aD.getD (k+1) 0):=(Fo fun h=>ox (by rw[<-ix.o];exact(Ts tG.o hi).2 h));have Y0:=ab ((xM.of HG.o aU).row HG.o HK.o YD.o);have aiM:=iQ g.x.s (g.aD.getD k 0);have cb0:w.cell? ⟨g.cN,k,none⟩=some (.int .i64 (bd g.x.s (g.aD.getD k 0):Int)):=HO.o.at_.bg k (by omega);obtain⟨b0,xP⟩:∃b0,Hid (bd g.x.s (g.aD.getD k 0)=b0):=⟨_,(rfl:_=_)⟩
   rw[xP.o]at cb0 aiM;obtain⟨r,HR⟩:∃r,Hid (bd g.x.s i=b0+r):=⟨bd g.x.s i-b0,by show _=_;have:=Y0.o;have:=xP.o;omega⟩
   have sX:r<g.nr:=by have:=Y0.o;have:=HR.o;have:=xP.o;omega
   have Jm:(bd g.x.s i:Int)-(b0:Int)=(r:Int):=by have:=HR.o;omega
   have ax:Hid (∀(w':World) (p_:List Nat),oV w' g k wf p_->gd p_ (r*g.L) u=dP g.ms g.x u i):=fun w' p_ h=>by
    have:=h.rows i HK.o YD.o u hu;have e:bd g.x.s i-g.from k=r:=by unfold OG.from;have:=HR.o;have:=xP.o;omega
    rw[e]at this;exact this
   have ai1:¬(b1:Int)<(bd g.x.s i:Int):=(by omega);by_cases ek:k=aj
   ·subst ek;have Z5:w.cell? ⟨g.ob,11,none⟩=some (.slice (some ⟨g.rh,0,none⟩) g.nr g.cr):=HO.o.at_.rk.o.cell 11;have crh:w.cell? ⟨g.rh,r,none⟩=some (.slice (some ⟨g.WB,r*g.L,none⟩) g.L g.L):=HO.o.at_.rh r sX;have H7:=(ab fun m=>abn HG.o HO.o.at_ sX hu m);go_wp2_with fail;go_big_quiet (first|(go_at_call 90;refine Ar (H7.o _)));go_wp2_with fail;go_ret;have e:=ax.o _ _ HO.o;rw[e];exact⟨rfl,k,wd,HO.o.kept ((aa.refl af w).drewN nq),HK.o,(aa.refl _ w).drewN nq⟩
   ·have ek2:((k:Int) != (aj:Int))=true:=by simp;omega
    have F:=ab (acD HG.o HO.o.at_ aU (HO.o.LF (k+1) aU));go_wp2_with fail;refine(F.o).mono ?_;rintro e w2 ⟨rfl,wd2,h2,h3,k2⟩;have O2:Hid (oV w2 g k wf wd2):=⟨h2,aU,HO.o.LF,h3⟩;have Z5:w2.cell? ⟨g.ob,11,none⟩=some (.slice (some ⟨g.rh,0,none⟩) g.nr g.cr):=h2.rk.o.cell 11;have c82:w2.cell? ⟨g.ob,8,none⟩=some (.slice (some ⟨g.cN,0,none⟩) g.aD.length g.cb):=h2.rk.o.cell 8;have cb2:w2.cell? ⟨g.cN,k,none⟩=some (.int .i64 (b0:Int)):=by rw[<-xP.o];exact h2.bg k (by omega)
    have crh:w2.cell? ⟨g.rh,r,none⟩=some (.slice (some ⟨g.WB,r*g.L,none⟩) g.L g.L):=h2.rh r sX;have H7:=(ab fun m=>abn HG.o h2 sX hu m);have K2:=ab k2;clear h2 h3 k2 F cb cb0 c8 Lm;go_wp2_with fail;go_big_quiet (first|(go_at_call 90;refine Ar (H7.o _)));go_wp2_with fail;go_ret;have e:=ax.o _ _ O2.o;rw[e];exact⟨rfl,k,wd2,O2.o.kept ((aa.refl af w2).drewN nq),HK.o,K2.o.drewN nq⟩
theorem aop(ho:o+aM.length<=ws.length)(hk:k<aM.length):(splice ws o aM).set (o+k) x=splice ws o (aM.set k x):=by
 unfold splice;rw[Em _ _ (by simp;omega),List.set_append_left _ _ (by simp;omega)];simp only[Dq,Bm];rw[show o+k-min o ws.length=k by omega]
theorem af2(h:∀j,j<L->aM.getD j 0=18446744073709551615)(hu:u/64<L):gd aM 0 u=true:=by
 unfold gd;rw[Bf,h _ hu,show(18446744073709551615:Nat)=2^64-1 by decide,Nat.testBit_two_pow_sub_one];simp;omega
def KY(w wr:World)(B o L:Nat)(ws:List Nat)(k:Nat):Prop:=∃aM:List Nat,aM.length=L/\fY aM/\aq wr B (dg (splice ws o aM)).toArray 207/\aa (fun i=>i=B) w wr/\∀j,j<k->aM.getD j 0=18446744073709551615
theorem KY.put{wr:World}(h:KY w wr B o L ws k)(ho:o+L<=ws.length)(hk:k<L):KY w (wr.setCell ⟨B,o+k,none⟩ (.int .u64 18446744073709551615)) B o L ws (k+1):=by
 obtain⟨aM,h1,h2,h3,h4,h5⟩:=h;refine⟨aM.set k 18446744073709551615,by simpa using h1,fun x hx=>?_,?_,h4.setCell (p:=⟨B,o+k,none⟩) (Or.inl rfl) _,fun j hj=>?_⟩
 ·rcases Dx hx with h|h
  ·exact h2 x h
  ·omega
 ·have:=h3.setCell (o+k) (.int .u64 ((18446744073709551615:Nat):Int));rw[ae3,aop (by omega) (by omega)]at this;exact this
 ·rw[LK _ _ _ _ _ (by omega)];split
  ·rfl
  ·exact h5 j (by omega)
theorem anc{c:Nat}(h:aq w B (dg ws).toArray 207)(hw:fY ws)(ho:o+L<=ws.length)(hL:L<100000):
 Calls prog 87 #[.slice (some ⟨B,o,none⟩) L c] w fun e w'=>e=.returned (.tuple #[])/\aa (fun i=>i=B) w w'/\∃aM,aM.length=L/\fY aM/\aq w' B (dg (splice ws o aM)).toArray 207/\∀u,u/64<L->gd aM 0 u=true:=by
 have du:Hid (KY w w B o L ws 0):=⟨kZ ws o L,JT ho,hw.kZ _ _,by rw[aom ho];exact h,aa.refl _ _,fun j hj=>by omega⟩;have HO:=ab ho;clear h hw ho;go_in;go_wp2_with fail;go_loopg [5] L (fun kk v wr=>∃k:Nat,v=.int .i64 (k:Int)/\k<=L/\kk=L-k/\Hid (KY w wr B o L ws k))
 case atStart=>exact⟨0,rfl,Ao _,rfl,du⟩
 case round=>
  obtain⟨k,rfl,hk,eZ,HI⟩:=hrel;clear du;by_cases aw:k<L
  ·have iX:(k:Int)<(L:Int):=(by omega);obtain⟨aM,h1,h2,h3,h4,h5⟩:=HI.o;have c1:=h3.cell (o+k);rw[zi (by rw[Dg _ _ _ (by rw[h1];exact HO.o)];have:=HO.o;omega)]at c1;have f1:=h3.frozen (o+k);generalize(((splice ws o aM).getD (o+k) 0:Nat):Int)=c0 at c1;clear h3;have ax:=ab (HI.o.put HO.o aw);clear h1 h2 h4 h5 HI;go_wp2_with fail;go_roundg (L-(k+1))
   case measure=>omega
   case rel=>exact⟨k+1,by simp,by omega,rfl,ax⟩
  ·have iX:¬(k:Int)<(L:Int):=by omega
   have ax:Hid (aa (fun i=>i=B) w wr/\∃aM,aM.length=L/\fY aM/\aq wr B (dg (splice ws o aM)).toArray 207/\∀u,u/64<L->gd aM 0 u=true):=by
    obtain⟨aM,h1,h2,h3,h4,h5⟩:=HI.o;exact⟨h4,aM,h1,h2,h3,fun u hu=>af2 (L:=L) (fun j hj=>h5 j (by omega)) hu⟩
   clear HI;go_wp2_with fail;go_end0;exact⟨rfl,ax.o⟩
