/- Package whole's load -/
import Derived.Test.YtpdnofhackjfdaaGreatDoorP23
set_option linter.all false
set_option maxRecDepth 100000
set_option maxHeartbeats 8000000
namespace Go.Proofs.YtpdnofhackjfdaaGreatDoor
open Go.Proofs.Tryz
open Go.RowKit Go.Maps
attribute [local go_sem] Ew
variable {P s:ByteArray} {aL wf wq wr ws:List Nat} {B L b ak d i i0 i1 ip j k o px r u x:Nat} {g:OG} {v:Value} {W w w3:World}
structure xK(g:OG)(b i0 i1:Nat):Prop where
 lt:b+1<g.aD.length
 e0:g.aD.getD b 0=i0
 e1:g.aD.getD (b+1) 0=i1
 le:i0<=i1
 in_:i1<=(aF g.x.s).length
 M7:bd g.x.s i1<=bd g.x.s i0+4099
theorem xK.of(hg:g.Ok)(hb:b+1<g.aD.length):xK g b (g.aD.getD b 0) (g.aD.getD (b+1) 0):=
 ⟨hb,rfl,rfl,(hg.bg.step b hb).1,hg.bg.in_ _,(hg.bg.step b hb).2⟩
theorem xK.row(h:xK g b i0 i1)(hg:g.Ok)(h0:i0<=j)(h1:j<=i1):bd g.x.s i0<=bd g.x.s j/\bd g.x.s j-bd g.x.s i0<g.nr:=by
 have a:=fY g.x.s h0;have b:=fY g.x.s h1;have c:=h.M7;have d:=iP g.x.s j;have e:=hg.ac7;omega
theorem vW{n:Nat}(hl:ws.length=n*g.L)(h:r<n):r*g.L+g.L<=ws.length:=by
 rw[hl];have:=Bq g.L (show r+1<=n by omega);rw[Cq]at this;omega
theorem WQ{r':Nat}(h:r≠r'):r'*L+L<=r*L\/r*L+L<=r'*L:=by
 rcases Nat.lt_or_gt_of_ne h with h1|h1
 ·have:=Bq L (show r+1<=r' by omega);rw[Cq]at this;omega
 ·have:=Bq L (show r'+1<=r by omega);rw[Cq]at this;omega
def gU(s:ByteArray)(i0 d:Nat):Nat:=bd s (i0+d)-bd s i0
def Jw(s:ByteArray)(i0 n:Nat):List Value:=(List.range n).map fun d=>Value.int .i64 (gU s i0 d:Int)
structure zA(w3 wr:World)(s P:ByteArray)(i0 i1:Nat)(v:Value)(d ip:Nat):Prop where
 le:i0+d<=i1
 row:wr.ownsRow (w3.heap.size+1) 3 1 v d (Jw s i0 d)
 iter:wr.heap[w3.heap.size]? =some (.stringIter P ip)
 kept:aa af w3 wr
 size:w3.heap.size+1<=wr.heap.size
theorem zA.BL{wr:World}(h:zA w3 wr s P i0 i1 v d ip)(Gx:Nat):zA w3 (wr.iterAt w3.heap.size P Gx) s P i0 i1 v d Gx:=by
 have k:aa (fun i=>i=w3.heap.size) wr (wr.iterAt w3.heap.size P Gx):=(aa.refl (fun i=>i=w3.heap.size) wr).iterAt (k:=w3.heap.size) (Or.inl rfl) P _;exact⟨h.le,bR h.row k (fun b hb hx=>by have:=(dw h.row hb).1;omega),Lib.iterAt_heap wr _ P _ _ h.iter,h.kept.bV k (fun i hi he=>by omega),by rw[Fq];exact h.size⟩
theorem amE(s:ByteArray)(i0 d:Nat):Jw s i0 (d+1)=Jw s i0 d++[.int .i64 (gU s i0 d:Int)]:=by unfold Jw;rw[Fr];simp
theorem zA.Ng{wr w7:World}{v':Value}(h:zA w3 wr s P i0 i1 v d ip)(aw:i0+d<i1)(k0:aa af wr W)
 (bk:w7.ownsRow (w3.heap.size+1) 3 1 v' (d+1) (Jw s i0 d++[.int .i64 (gU s i0 d:Int)]))(hg:W.grownBy w7 v.ownBlock):zA w3 w7 s P i0 i1 v' (d+1) ip:=by
 have k7:aa (fun j=>v.ownBlock=some j) wr w7:=(k0.mono (fun i hx=>hx.elim)).eN hg (fun j hj=>Or.inl hj);refine⟨aw,by rw[amE];exact bk,(k7.block _ (by have:=h.size;omega) (fun e=>by have:=(dw h.row e).1;omega)).trans h.iter,h.kept.bV k7 (fun j hj he=>by have:=(dw h.row he).1;omega),Be h.size k7.size⟩
theorem amj(h:i0+d<i1)(hi:i1<=(aF s).length):gU s i0 d<(s.extract (bd s i0) (bd s i1)).size/\gU s i0 d+(Utf8.decode (s.extract (bd s i0) (bd s i1)) (gU s i0 d)).2=gU s i0 (d+1):=by
 have hk:i0+d<(aF s).length:=by omega
 have m1:=fY s (show i0<=i0+d by omega);have aw:=zJ (s:=s) h hk;have o_:=tJ hk;have hle:=fY s (show i0+d+1<=i1 by omega);have aS:(s.extract (bd s i0) (bd s i1)).size=bd s i1-bd s i0:=extract_size s _ _ (iP s i1)
 have ES:Utf8.decode (s.extract (bd s i0) (bd s i1)) (bd s (i0+d)-bd s i0)=Utf8.decode s (bd s (i0+d)):=by
  have:=DO s (bd s i0) (bd s i1) (bd s (i0+d)-bd s i0) (iP s i1) (by omega) (by rw[show bd s i0+(bd s (i0+d)-bd s i0)=bd s (i0+d) by omega];omega);rw[show bd s i0+(bd s (i0+d)-bd s i0)=bd s (i0+d) by omega]at this;exact this
 unfold gU;rw[ES,aS,show i0+(d+1)=i0+d+1 by omega];omega
theorem ami(h:i0+d=i1):¬gU s i0 d<(s.extract (bd s i0) (bd s i1)).size:=by
 have aS:(s.extract (bd s i0) (bd s i1)).size=bd s i1-bd s i0:=extract_size s _ _ (iP s i1);unfold gU;rw[aS,h];omega
def Y_(ob bx cK n cb b f0 f1:Nat)(W:World):Prop:=W.cell? ⟨bx,0,none⟩=some (.pointer (some ⟨ob,0,none⟩))/\W.cell? ⟨ob,8,none⟩=some (.slice (some ⟨cK,0,none⟩) n cb)/\W.cell? ⟨cK,b,none⟩=some (.int .i64 (f0:Int))/\W.cell? ⟨cK,b+1,none⟩=some (.int .i64 (f1:Int))
def Zb(ob bx b4 rh nr cr WB L r fh n cf FB b f0:Nat)(W:World):Prop:=(W.cell? ⟨bx,0,none⟩=some (.pointer (some ⟨ob,0,none⟩))/\W.cell? ⟨ob,11,none⟩=some (.slice (some ⟨rh,0,none⟩) nr cr)/\W.cell? ⟨ob,9,none⟩=some (.slice (some ⟨fh,0,none⟩) n cf))/\W.cell? ⟨rh,r,none⟩=some (.slice (some ⟨WB,r*L,none⟩) L L)/\W.cell? ⟨fh,b+1,none⟩=some (.slice (some ⟨FB,(b+1)*L,none⟩) L L)/\W.cell? ⟨b4,0,none⟩=some (.int .i64 (f0:Int))
def Zc(ob bx b4 f0:Nat)(s:ByteArray)(W:World):Prop:=W.cell? ⟨bx,0,none⟩=some (.pointer (some ⟨ob,0,none⟩))/\W.cell? ⟨ob,3,none⟩=some (.string s)/\W.cell? ⟨b4,0,none⟩=some (.int .i64 (f0:Int))
theorem aa.putObj{S:Nat->Prop}{a:World}(h:aa S a w){l:Nat}(hl:a.heap.size<=l)(o:Obj):aa S a (w.putObj l o):=
 ⟨h.os,h.tape,h.output,by have:=h.size;simpa using this,fun k hk hs=>(De (by omega)).trans (h.block k hk hs)⟩
theorem ald(hg:g.Ok){bh:Nat}(hb:xK g b i0 i1)(hd:i0+d=i1)(hx:x<d)(I4:gU g.x.s i0 x=px)(iM:px<g.nr)(AE:bh<g.nr)(hl:wq.length=g.nr*g.L)(hw:fW wq){H:Prop}(hH:H->bh=gU g.x.s i0 (x+1)/\uV g wq b (i0+(x+1))):
 Zg W g.WB (px*g.L) g.WB (bh*g.L) g.L wq (fun nx=>H->∀u:Nat,u<g.ms.length->gh nx 0 u=(decide (i0+x<g.x.n)&&dM g.ms g.x u (i0+x+1))):=by
 intro W' aL hk fa bj vA;have PG:=vW (g:=g) hl iM;have LU:=vW (g:=g) hl AE;have fM:(splice wq (px*g.L) aL).length=wq.length:=Dd _ _ _ (by omega);have dR:=hb.in_;have aw:i0+x<(aF g.x.s).length:=by omega
 have bt:=pE aw;have m1:=fY g.x.s (show i0<=i0+x by omega)
 have az:H->bh≠px:=fun h e=>by
  have:=(hH h).1;unfold gU at this I4;rw[show i0+(x+1)=i0+x+1 by omega]at this;omega
 by_cases e:bh=px
 ·refine⟨aL,bj,fun k tY=>?_,fun h=>absurd e (az h)⟩;have:=vA.cell (bh*g.L+k);rw[zg (by omega),y_ _ _ _ (by omega),if_pos (by subst e;omega)]at this;rw[this];subst e;rw[Ey]
 ·have tT:=WQ (L:=g.L) (fun h=>e h.symm:px≠bh);refine⟨kV wq (bh*g.L) g.L,hw.kV _ _,fun k tY=>?_,fun h u hu=>?_⟩
  ·have:=vA.cell (bh*g.L+k);rw[zg (by omega),y_ _ _ _ (by omega),if_neg (by omega)]at this;rw[this,Rk tY]
  ·have ku:u/64<g.L:=by have:=hg.Ia;omega
   obtain⟨h1,h2⟩:=hH h;have h3:=h2 (i0+(x+1)) (Ab _) (by rw[hb.e1];omega) u hu;have e3:bd g.x.s (i0+(x+1))-g.from b=bh:=by unfold OG.from;rw[hb.e0,h1];rfl
   rw[e3]at h3;rw[Tk ku,h3];have ai4:i0+x<g.x.n:=aw;simp[ai4,Dn]
theorem ane(hg:g.Ok)(hb:xK g b i0 i1)(hd:i0+d=i1)(hk:k<d)(I4:gU g.x.s i0 k=px)(iM:px<g.nr)(hl:wq.length=g.nr*g.L)(fa:aL.length=g.L)(hr:uV g wq b (i0+(k+1)))(hc:∀u:Nat,u<g.ms.length->gh aL 0 u=dM g.ms g.x u (i0+k)):uV g (splice wq (px*g.L) aL) b (i0+k):=by
 intro j rG lL u hu;have PG:=vW (g:=g) hl iM;have ku:u/64<g.L:=by have:=hg.Ia;omega
 rw[hb.e1]at lL;have dR:=hb.in_;by_cases e:j=i0+k
 ·subst e;have e3:bd g.x.s (i0+k)-g.from b=px:=by unfold OG.from;rw[hb.e0];exact I4
  rw[e3,OO (by omega) (by omega)];exact hc u hu
 ·have az:px≠bd g.x.s j-g.from b:=by
   unfold OG.from
   rw[hb.e0,<-I4];have:=zJ (s:=g.x.s) (show i0+k<j by omega) (by omega);have:=fY g.x.s (show i0<=i0+k by omega);unfold gU;omega
  have tT:=WQ (L:=g.L) az;rw[ZY (L:=g.L) (by omega) (by omega) ku];exact hr j (by omega) (by rw[hb.e1];exact lL) u hu
def afE{N:Nat}(bx B8:Nat)(p:Nat->Nat)(x:Ii N)(a':Act):Prop:=∃z0 z1 z3 z5 z6 z7 z9 z11 z12 z13 z14 z15 z16 z17 z18 z19 z20 z21 z22 z23 z24 z25 z26 z27 z28 z29 z30 z31 z32 z33 z34 z35 z36 z37 z38 z39 z40 z41 z42 z43 z44 z45 z46 z47 z48 z49 z50 z51 z52 z53 z54 z55 z56 z57 z58 z59 z60 z61 z62 z63 z64 z65 z66 z67 z68 z69 z70 z71 z72 z73 z74 z75 z76 z77 z78 z79 z80 z81 z82 z83 z84 z85 z86 z87 z88 z89 z90:Value,a'={tmps:=#[z0,z1,.pointer (some ⟨bx,0,none⟩),z3,.pointer (some ⟨bx+1,0,none⟩),z5,z6,z7,.pointer (some ⟨B8,0,none⟩),z9,.int .i64 (p x.1:Int),z11,z12,z13,z14,z15,z16,z17,z18,z19,z20,z21,z22,z23,z24,z25,z26,z27,z28,z29,z30,z31,z32,z33,z34,z35,z36,z37,z38,z39,z40,z41,z42,z43,z44,z45,z46,z47,z48,z49,z50,z51,z52,z53,z54,z55,z56,z57,z58,z59,z60,z61,z62,z63,z64,z65,z66,z67,z68,z69,z70,z71,z72,z73,z74,z75,z76,z77,z78,z79,z80,z81,z82,z83,z84,z85,z86,z87,z88,z89,z90],defers:=[]}
def Ib(g:OG)(w3:World)(B8 b i0 d:Nat)(pre:List (Ii d))(W:World):Prop:=
 aa (fun i=>i=g.WB) w3 W/\∃(bh:Nat) (wq:List Nat),aq W B8 #[.int .i64 (bh:Int)] 3/\bh<g.nr/\aq W g.WB (de wq).toArray 207/\(wq.length=g.nr*g.L/\fW wq)/\(∀k,k<=d->pre.map (·.1)=rm k d->bh=gU g.x.s i0 k/\uV g wq b (i0+k))
theorem Ib.au(g:OG)(w3:World)(B8 b i0 d B:Nat)(hB:w3.heap.size<=B):OwnFrom B (Ib g w3 B8 b i0 d):=fun s W W' row h hg hr=>by
 obtain⟨k,bh,wq,h1,h2,h3,h4⟩:=h;exact⟨k.eN hg (fun j e=>Or.inr (by have:=(hr j e).1;omega)),bh,wq,Tl B8 _ _ () W W' row h1 hg (fun r e=>(hr r e).2),h2,Tl g.WB _ _ () W W' row h3 hg (fun r e=>(hr r e).2),h4⟩
def Za(ob bx rh nr cr WB L px bh B8 f0:Nat)(W:World):Prop:=(W.cell? ⟨bx,0,none⟩=some (.pointer (some ⟨ob,0,none⟩))/\W.cell? ⟨ob,11,none⟩=some (.slice (some ⟨rh,0,none⟩) nr cr))/\W.cell? ⟨rh,px,none⟩=some (.slice (some ⟨WB,px*L,none⟩) L L)/\W.cell? ⟨rh,bh,none⟩=some (.slice (some ⟨WB,bh*L,none⟩) L L)/\W.cell? ⟨B8,0,none⟩=some (.int .i64 (bh:Int))/\W.cell? ⟨bx+1,0,none⟩=some (.int .i64 (f0:Int))
theorem aku(n:Nat)(hn:3<=n)(hg:g.Ok)(hO:ij w g ak wf wr)(hb:xK g b i0 i1)(hF:zC g wf (b+1) i1):
 CallsIn Fence.wide n prog 89 #[.pointer (some ⟨g.ob,0,none⟩),.int .i64 (b:Int)] w fun e w'=>e=.returned (.tuple #[])/\∃xI,ij w' g b wf xI/\uV g xI b i0/\aa (fun i=>i=g.ob\/i=g.WB) w w':=by
 have h1:1<=n:=by omega
 have vB:=hb.lt;have dh:=hg.bg.bT;have aS:=hg.size;have HG:=ab hg;have HO:=ab hO;have HB:=ab hb;have HF:=ab hF;have apY:=hO.rk.out.lt;have aph:=hO.bw.lt;have apn:=iP g.x.s i0;have abv:=iP g.x.s i1;have f10:=hO.rk.out.frozen 10;have KX:w.cell? ⟨g.ob,10,none⟩=some (.int .i64 (ak:Int)):=hO.rk.out.cell 10;clear hg hO hb hF;refine callsIn_of_wp_marks func89 rfl trivial ?_ rfl;simp only[ntmps89,Dh,Ax,Bb,Nat.reduceAdd,Nat.reduceSub,Db,Dc,Du,Dj,Dk,C1];refine wpIn_wide.2 ?_;go_wp2_with fail;have jj:(w.setCell ⟨g.ob,10,none⟩ (.int .i64 (b:Int))).heap.size=w.heap.size:=by simp[World.setCell]
 have K1:Hid (aa (fun i=>i=g.ob) w ((w.setCell ⟨g.ob,10,none⟩ (.int .i64 (b:Int))).alloc (.cells #[.pointer (some ⟨g.ob,0,none⟩)] 136))):=((aa.refl (fun i=>i=g.ob) w).setCell (p:=⟨g.ob,10,none⟩) (Or.inl rfl) _).alloc _;have O1:Hid (ij ((w.setCell ⟨g.ob,10,none⟩ (.int .i64 (b:Int))).alloc (.cells #[.pointer (some ⟨g.ob,0,none⟩)] 136)) g b wf wr):=(HO.out.anw HG.out b).kept ((aa.refl af _).alloc _)
 have B1:Hid (aq ((w.setCell ⟨g.ob,10,none⟩ (.int .i64 (b:Int))).alloc (.cells #[.pointer (some ⟨g.ob,0,none⟩)] 136)) w.heap.size #[.pointer (some ⟨g.ob,0,none⟩)] 136):=by
  have:=aq.new (w.setCell ⟨g.ob,10,none⟩ (.int .i64 (b:Int))) #[.pointer (some ⟨g.ob,0,none⟩)] 136;rw[jj]at this;exact this
 have cR:((w.setCell ⟨g.ob,10,none⟩ (.int .i64 (b:Int))).alloc (.cells #[.pointer (some ⟨g.ob,0,none⟩)] 136)).heap.size=w.heap.size+1:=by rw[fF,jj]
 generalize((w.setCell ⟨g.ob,10,none⟩ (.int .i64 (b:Int))).alloc (.cells #[.pointer (some ⟨g.ob,0,none⟩)] 136))=w1 at*
 clear jj;clear f10 KX HO;have e0:=HB.out.e0;have e1:=HB.out.e1
 have PS:Hid (∀W,aa af w1 W->Y_ g.ob w.heap.size g.cK g.aD.length g.cb b (bd g.x.s i0) (bd g.x.s i1) W):=fun W k=>by
  have O2:=O1.out.kept k;refine⟨(B1.out.kept k (fun h=>h)).cell 0,O2.rk.out.cell 8,?_,?_⟩
  ·rw[<-e0];exact O2.bg b (by omega)
  ·rw[<-e1];exact O2.bg (b+1) (by omega)
 clear e0 e1;have aj:=PS.out w1.drew (aa.refl af w1).drew;refine jW (Cf (by kernel_rfl) (Cd (S:=Y_ g.ob w.heap.size g.cK g.aD.length g.cb b (bd g.x.s i0) (bd g.x.s i1)) _ _ _ _ ?_));refine ai 0 15 (.pointer (some ⟨g.ob,0,none⟩)) aj ?_;refine ai 1 16 (.pointer (some ⟨g.ob,0,none⟩)) aj ?_;refine ai 2 17 (.pointer (some ⟨g.ob,8,none⟩)) aj ?_;refine ai 3 18 (.slice (some ⟨g.cK,0,none⟩) g.aD.length g.cb) aj ?_;refine ai 4 19 (.int .i64 (b:Int)) aj ?_;refine pj 5 20 (.pointer (some ⟨g.cK,b,none⟩)) rfl rfl (by kernel_rfl) (by kernel_rfl) (by kernel_rfl) (fun _ _ _ h=>h) (Or.inl ⟨by rfl,fun W eP=>by obtain⟨s0,s1,s2,s3⟩:=eP;go_simp;intro hx;exact absurd hx (by omega)⟩) aj ?_;refine ai 6 21 (.int .i64 (bd g.x.s i0:Int)) aj ?_;refine ai 7 22 (.pointer (some ⟨g.ob,0,none⟩)) aj ?_;refine ai 8 23 (.pointer (some ⟨g.ob,0,none⟩)) aj ?_;refine ai 9 24 (.pointer (some ⟨g.ob,8,none⟩)) aj ?_;refine ai 10 25 (.slice (some ⟨g.cK,0,none⟩) g.aD.length g.cb) aj ?_;refine ai 11 26 (.int .i64 (b:Int)) aj ?_;refine pj 12 27 (.int .i64 ((b:Int)+1)) rfl rfl (by kernel_rfl) (by kernel_rfl) (by kernel_rfl) (fun _ _ _ h=>h) (Or.inl ⟨by rfl,fun W eP=>by obtain⟨s0,s1,s2,s3⟩:=eP;go_simp;rw[Cv];omega⟩) aj ?_;refine pj 13 28 (.pointer (some ⟨g.cK,b+1,none⟩)) rfl rfl (by kernel_rfl) (by kernel_rfl) (by kernel_rfl) (fun _ _ _ h=>h) (Or.inl ⟨by rfl,fun W eP=>by obtain⟨s0,s1,s2,s3⟩:=eP;go_simp;intro hx;exact absurd (hx (by omega)) (by omega)⟩) aj ?_;refine ai 14 29 (.int .i64 (bd g.x.s i1:Int)) aj ?_;simp only[Act.put,Aa,Ad,Ac];refine bN 15 fun K hK=>?_
 go_simp;have kA:aa af w1 (w1.alloc (.cells #[.int .i64 0] 3)).drew:=((aa.refl af w1).alloc _).drew;refine hK.out _ _ (PS.out _ kA) (fun _=>?_);clear hK K;have kB:aa af w1 (w1.alloc (.cells #[.int .i64 (bd g.x.s i0:Int)] 3)).drew:=((aa.refl af w1).alloc _).drew;have B4:Hid (aq (w1.alloc (.cells #[.int .i64 (bd g.x.s i0:Int)] 3)).drew (w.heap.size+1) #[.int .i64 (bd g.x.s i0:Int)] 3):=by have:=aq.new w1 #[.int .i64 (bd g.x.s i0:Int)] 3;rw[cR]at this;exact this
 have gi:(w1.alloc (.cells #[.int .i64 (bd g.x.s i0:Int)] 3)).drew.heap.size=w.heap.size+1+1:=by simp[World.drew,cR]
 have O2:=ab (O1.out.kept kB);have B2:=ab (B1.out.kept kB (fun h=>h));have K2:=ab (K1.out.trans (kB.mono (fun _ h=>h.elim)));have KB:=ab kB;clear kA kB;refine bN 16 fun K hK=>?_
 go_simp;refine hK.out _ _ (PS.out _ KB.out) (fun _=>?_);clear hK K;refine bN 17 fun K hK=>?_
 go_simp;refine hK.out _ _ (PS.out _ KB.out) (fun _=>?_);clear hK K;refine At (by kernel_rfl) ?_ _;refine jw ?_;generalize(w1.alloc (.cells #[.int .i64 (bd g.x.s i0:Int)] 3)).drew=w2 at*;clear PS aj KB O1 B1 K1 cR;go_wp2_with fail;obtain⟨r,kF⟩:∃r,Hid (bd g.x.s i1=bd g.x.s i0+r):=⟨bd g.x.s i1-bd g.x.s i0,by show _=_;have:=fY g.x.s HB.out.le;omega⟩
 have sW:r<g.nr:=by have:=HB.out.row HG.out HB.out.le (Ab _);have:=kF.out;omega
 have zz:Hid (∀W,aa af w2 W->Zb g.ob w.heap.size (w.heap.size+1) g.rh g.nr g.cr g.WB g.L r g.fh g.aD.length g.cf g.FB b (bd g.x.s i0) W):=fun W k=>by
  have O3:=O2.out.kept k;exact⟨⟨(B2.out.kept k (fun h=>h)).cell 0,O3.rk.out.cell 11,O3.rk.out.cell 9⟩,O3.rh r sW,O3.fh (b+1) vB,(B4.out.kept k (fun h=>h)).cell 0⟩
 have aj:=zz.out w2.drew (aa.refl af w2).drew;refine jW (gW (S:=Zb g.ob w.heap.size (w.heap.size+1) g.rh g.nr g.cr g.WB g.L r g.fh g.aD.length g.cf g.FB b (bd g.x.s i0)) 17 (by kernel_rfl) rfl rfl rfl (by kernel_rfl) (by kernel_rfl) ?_);refine ai 0 30 (.pointer (some ⟨g.ob,0,none⟩)) aj ?_;refine ai 1 31 (.pointer (some ⟨g.ob,0,none⟩)) aj ?_;refine ai 2 32 (.pointer (some ⟨g.ob,11,none⟩)) aj ?_;refine ai 3 33 (.slice (some ⟨g.rh,0,none⟩) g.nr g.cr) aj ?_;refine ai 4 34 (.int .i64 (bd g.x.s i1:Int)) aj ?_;refine ai 5 35 (.int .i64 (bd g.x.s i0:Int)) aj ?_;refine pj 6 36 (.int .i64 (r:Int)) rfl rfl (by kernel_rfl) (by kernel_rfl) (by kernel_rfl) (fun _ _ _ h=>h) (Or.inl ⟨by rfl,fun W eP=>by obtain⟨⟨s0,s1,s2⟩,s3,s4,s5⟩:=eP;go_simp;rw[Cv];have:=kF.out;omega⟩) aj ?_;refine ai 7 37 (.pointer (some ⟨g.rh,r,none⟩)) aj ?_;refine ai 8 38 (.slice (some ⟨g.WB,r*g.L,none⟩) g.L g.L) aj ?_;refine ai 9 39 (.pointer (some ⟨g.ob,0,none⟩)) aj ?_;refine ai 10 40 (.pointer (some ⟨g.ob,0,none⟩)) aj ?_;refine ai 11 41 (.pointer (some ⟨g.ob,9,none⟩)) aj ?_;refine ai 12 42 (.slice (some ⟨g.fh,0,none⟩) g.aD.length g.cf) aj ?_;refine ai 13 43 (.int .i64 (b:Int)) aj ?_;refine pj 14 44 (.int .i64 ((b:Int)+1)) rfl rfl (by kernel_rfl) (by kernel_rfl) (by kernel_rfl) (fun _ _ _ h=>h) (Or.inl ⟨by rfl,fun W eP=>by obtain⟨⟨s0,s1,s2⟩,s3,s4,s5⟩:=eP;go_simp;rw[Cv];omega⟩) aj ?_;refine pj 15 45 (.pointer (some ⟨g.fh,b+1,none⟩)) rfl rfl (by kernel_rfl) (by kernel_rfl) (by kernel_rfl) (fun _ _ _ h=>h) (Or.inl ⟨by rfl,fun W eP=>by obtain⟨⟨s0,s1,s2⟩,s3,s4,s5⟩:=eP;go_simp;intro hx;exact absurd (hx (by omega)) (by omega)⟩) aj ?_;refine ai 16 46 (.slice (some ⟨g.FB,(b+1)*g.L,none⟩) g.L g.L) aj ?_;simp only[Act.put,Aa,Ad,Ac];refine At (by kernel_rfl) ?_ _;unfold eJ;refine afq (.tmp 38) (.tmp 46) 173 173 rfl 207 underlying173 (by kernel_rfl) g.WB (r*g.L) g.L g.L g.L g.FB ((b+1)*g.L) rfl rfl wr 207 O2.out.bw (kV wf ((b+1)*g.L) g.L) ?l1 ?l2 ?l3 ?_
 case l1=>exact JC (vW O2.out.fl.1 vB)
 case l2=>
  intro k hk;have hf:=vW (g:=g) O2.out.fl.1 vB;have:=O2.out.bf.cell ((b+1)*g.L+k);rw[zg (by omega)]at this;rw[Rk hk];exact this
 case l3=>exact vW O2.out.wl.1 sW
 intro w3 EG bA;have Jh:aa (fun i=>i=g.WB) w2 w3:=(aa.refl (fun i=>i=g.WB) w2).drew.trans bA;have pJ:=vW (g:=g) O2.out.wl.1 sW;have tU:=vW (g:=g) O2.out.fl.1 vB;have fM:(kV wf ((b+1)*g.L) g.L).length=g.L:=JC tU;have O3:Hid (ij w3 g b wf (splice wr (r*g.L) (kV wf ((b+1)*g.L) g.L))):=O2.out.WN HG.out Jh EG ⟨by rw[Dd _ _ _ (by rw[fM];exact pJ)];exact O2.out.wl.1,O2.out.wl.2.splice (O2.out.fl.2.kV _ _) _⟩
 have R3:Hid (zC g (splice wr (r*g.L) (kV wf ((b+1)*g.L) g.L)) r i1):=fun u hu=>by
  have ku:u/64<g.L:=by have:=HG.out.Ia;omega
  rw[OO (by rw[fM];exact pJ) (by rw[fM];exact ku),Tk ku];exact HF.out u hu
 have B3:=ab (B2.out.kept Jh (by omega));have RQ:=ab (B4.out.kept Jh (by omega));have K3:Hid (aa (fun i=>i=g.ob\/i=g.WB) w w3):=(K2.out.mono (fun i h=>Or.inl h)).trans (Jh.mono (fun i h=>Or.inr h));have qG:w.heap.size+1+1<=w3.heap.size:=by have:=Jh.size;omega
 generalize splice wr (r*g.L) (kV wf ((b+1)*g.L) g.L)=wr1 at*
 clear EG bA Jh O2 B2 B4 K2 zz aj HF pJ tU fM gi;refine jw ?_;simp only[Al,Ag,Ai,Act.put,Aa,Ad,Ac];go_wp2_with fail;have Zl:Hid (∀W,aa af w3 W->Zc g.ob w.heap.size (w.heap.size+1) (bd g.x.s i0) g.x.s W):=fun W k=>⟨(B3.out.kept k (fun h=>h)).cell 0,(O3.out.kept k).rk.out.cell 3,(RQ.out.kept k (fun h=>h)).cell 0⟩
 have aj:=Zl.out w3.drew (aa.refl af w3).drew;have apP:=fY g.x.s HB.out.le;refine jW (gW (S:=Zc g.ob w.heap.size (w.heap.size+1) (bd g.x.s i0) g.x.s) 8 (by kernel_rfl) rfl rfl rfl (by kernel_rfl) (by kernel_rfl) ?_);refine ai 0 48 (.pointer (some ⟨g.ob,0,none⟩)) aj ?_;refine ai 1 49 (.pointer (some ⟨g.ob,0,none⟩)) aj ?_;refine ai 2 50 (.pointer (some ⟨g.ob,3,none⟩)) aj ?_;refine ai 3 51 (.pointer (some ⟨g.ob,3,none⟩)) aj ?_;refine ai 4 52 (.string g.x.s) aj ?_;refine ai 5 53 (.int .i64 (bd g.x.s i0:Int)) aj ?_;refine ai 6 54 (.int .i64 (bd g.x.s i1:Int)) aj ?_;refine ai 7 55 (.string (g.x.s.extract (bd g.x.s i0) (bd g.x.s i1))) aj ?_;simp only[Act.put,Aa,Ad,Ac];refine At (by kernel_rfl) ?_ _;unfold eJ;simp only[Al,Ag,Ai];go_simp;refine jw ?_;obtain⟨ii,cP,di,dj,cY⟩:=Bo Tryz.Gw
 have dr:Hid (zA w3 (w3.drew.iter (g.x.s.extract (bd g.x.s i0) (bd g.x.s i1)) 0) g.x.s (g.x.s.extract (bd g.x.s i0) (bd g.x.s i1)) i0 i1 (.slice none 0 0) 0 (gU g.x.s i0 0)):=by
  refine⟨HB.out.le,A7 _ _ _ _,?_,(aa.refl af w3).drew.alloc _,by simp[World.iter]⟩;have:=World.iter_heap w3.drew (g.x.s.extract (bd g.x.s i0) (bd g.x.s i1)) 0;have e:gU g.x.s i0 0=0:=by unfold gU;simp
  rw[e];exact this
 have PN:=ab fun d (h:i0+d<i1)=>amj (s:=g.x.s) h HB.out.in_
 have PE:=ab fun d (h:i0+d=i1)=>ami (s:=g.x.s) h
 generalize hP:g.x.s.extract (bd g.x.s i0) (bd g.x.s i1)=PP at*
 clear hP Zl aj;generalize Jb:w3.drew.iter PP 0=w4 at*;clear Jb;go_wp2_with fail;have og:=HB.out.in_;have Ql:=Nm g.x.s;go_loopg [6] (i1-i0) (fun kk v wq=>∃d:Nat,Hid (zA w3 wq g.x.s PP i0 i1 v d (gU g.x.s i0 d))/\kk=i1-i0-d)
 case atStart=>exact⟨0,dr,rfl⟩
 case round=>
  obtain⟨d,tD,eT⟩:=hrel;clear dr;have hd:=tD.out.le;by_cases aw:i0+d<i1
  ·obtain⟨pn1,pn2⟩:=PN.out d aw;have hn:=(fun ty=>Lib.run_next_any_at (P:=prog) wr w3.heap.size PP (gU g.x.s i0 d) ty tD.out.iter pn1);rw[pn2]at hn;have Km:=ab (tD.out.BL (gU g.x.s i0 (d+1)));obtain⟨w5,Mw⟩:∃w5,w5=wr.iterAt w3.heap.size PP (gU g.x.s i0 (d+1)):=⟨_,rfl⟩
   rw[<-Mw]at hn Km;clear Mw tD pn1 pn2;generalize((Utf8.decode PP (gU g.x.s i0 d)).1:Int)=cc at hn;obtain⟨ao,c,rfl⟩:=cA Km.out.row;have PU:=(ab fun(W w7:World) (v':Value)=>Km.out.Ng (W:=W) (w7:=w7) (v':=v') aw);have fi:=ab Km.out.row;have qX:=ab Km.out.size;go_wp2_with (at_builtin;refine Ao _ rfl _ _ 22 rfl (w3.heap.size+1) 3 ii _ 1 8 underlying22 cP di dj cY rfl (by decide) _ _ _ rfl (fi.out.alloc _) ⟨w5.heap.size,0,none⟩ 1 1 [.int .i64 (gU g.x.s i0 d:Int)] rfl rfl ?c1 ?c2 ?c3 ?c4 ?c5 ?_)
   case c1=>exact GK _ _
   case c2=>exact vJ _
   case c3=>unfold maxLen;omega
   case c4=>omega
   case c5=>have:=qX.out;simp;omega
   intro v' w7 bG bY dX cx;obtain⟨jd,c',rfl⟩:=cA bG;have ax:=ab (PU.out _ _ _ ((aa.refl af w5).alloc _) bG bY);clear bG bY dX cx;go_wp2_with fail;go_roundg (i1-i0-(d+1))
   case measure=>omega
   case rel=>exact⟨d+1,ax,rfl⟩
  ·have LQ:i0+d=i1:=(by omega);have hn:=(fun ty=>Lib.run_next_end_at (P:=prog) wr w3.heap.size PP (gU g.x.s i0 d) ty tD.out.iter (PE.out d LQ));obtain⟨ao,c,rfl⟩:=cA tD.out.row;have I9:(bd g.x.s i1:Int)-(bd g.x.s i0:Int)=(r:Int):=by have:=kF.out;omega
   have c4:wr.cell? ⟨w.heap.size+1,0,none⟩=some (.int .i64 (bd g.x.s i0:Int)):=(RQ.out.kept tD.out.kept (fun h=>h)).cell 0;have CK:=ab LQ;clear LQ eT hd aw;go_wp2_with fail;refine(af0 _ ao d c).mono ?_;rintro e w6 ⟨rfl,Jc⟩
   obtain⟨pb,ap5,ajk,ha,jE⟩:∃pb,w3.heap.size<=pb/\pb<wr.heap.size/\(0<d->ao=some ⟨pb,0,none⟩)/\∀e,e<d->wr.cell? ⟨pb,e,none⟩=some (.int .i64 (gU g.x.s i0 e:Int)):=by
    by_cases h0:0<d
    ·obtain⟨gb,c',hv,l1,l2,l3,l4,l5⟩:=my tD.out.row h0;have Gn:ao=some ⟨gb,0,none⟩:=(by injection hv);refine⟨gb,by omega,l2,fun _=>Gn,fun e he=>?_⟩;rw[l4 e he];unfold Jw;simp[he]
    ·exact⟨w3.heap.size,Ab _,tD.out.size,fun h=>absurd h h0,fun e he=>by omega⟩
   have aqh:=tD.out.size;have k36:aa af w3 w6:=by rw[Jc];exact(tD.out.kept.alloc _).alloc _
   have ajv:w6.heap.size=wr.heap.size+1+1:=by rw[Jc];simp
   have ZS:aq w6 wr.heap.size #[.int .i64 (r:Int)] 3:=by rw[Jc];exact(aq.new wr _ _).alloc _
   have cBs:w6.cell? ⟨wr.heap.size+1,0,none⟩=some (.slice ao d c):=by
    rw[Jc];have:=(aq.new (wr.alloc (.cells #[.int .i64 (r:Int)] 3)) #[.slice ao d c] 22).cell 0;rw[fF]at this;exact this
   have IN:∀e,e<d->w6.cell? ⟨pb,e,none⟩=some (.int .i64 (gU g.x.s i0 e:Int)):=fun e he=>by
    have k:aa af wr w6:=by rw[Jc];exact((aa.refl af wr).alloc _).alloc _
    exact(k.cell (p:=⟨pb,e,none⟩) ajk (fun h=>h)).trans (jE e he)
   have ab4:(wr.alloc (.cells #[.int .i64 (r:Int)] 3)).heap.size=wr.heap.size+1:=fF _ _;rw[ab4];have hdn:d<=10000000:=by have:=CK.out;omega
   have BI:Hid (Ib g w3 wr.heap.size b i0 d [] w6):=by
    have O6:=O3.out.kept k36;refine⟨k36.mono (fun _ h=>h.elim),r,wr1,ZS,sW,O6.bw,O6.wl,fun k hk he=>?_⟩;have hkd:k=d:=by have:=congrArg List.length he;rw[aax]at this;simp at this;omega
    subst hkd;have LQ:=CK.out;refine⟨by have:=kF.out;unfold gU;rw[LQ];omega,fun j rG lL u hu=>?_⟩;rw[HB.out.e1]at lL;have hj:j=i1:=(by omega);subst hj;have e2:bd g.x.s j-g.from b=r:=by unfold OG.from;rw[HB.out.e0];have:=kF.out;omega
    rw[e2];exact R3.out u hu
   have K6:Hid (aa (fun i=>i=g.ob\/i=g.WB) w w3):=K3;have apg:g.WB<w3.heap.size:=(by omega);clear Jc jE ab4 ZS hn tD c4 I9;go_wp2_with fail;refine(wpIn_wide (n:=n)).1 ?_
   refine wpIn_rangeFunc_ownH rfl h1 (gf:=142) (lb:=#[.pointer (some ⟨wr.heap.size+1,0,none⟩)]) rfl trivial (enters_of func142 (by kernel_rfl) rfl)
    (af1 (n-1) (by omega) (wr.heap.size+1) pb d c (gU g.x.s i0) ao ha (by omega) w6 (by omega) (by omega) cBs IN) jO.trans (jO.putObj (by omega) (by omega)) (Fp _ _) (fun _=>rfl)
    (Ib g w3 wr.heap.size b i0 d)
    (fun _ _ _=>False)
    (Ib.au g w3 wr.heap.size b i0 d _ (by omega))
    (fun _ _ _ _ _ hs _ _=>hs)
    BI.out
    (fun x a' W=>afE w.heap.size wr.heap.size (gU g.x.s i0) x a')
    (fun x a' _ X Y row hs hg hr=>hs)
    ?assign ?body ?done ?stop
   case assign=>
    rintro l pre x W K hI hK;simp only[OL];gi_wp2;exact hK _ _ ((KeepsOthers.refl _).from _) (jO.refl _ _ _) hI ⟨_,_,_,_,_,_,_,_,_,_,_,_,_,_,_,_,_,_,_,_,_,_,_,_,_,_,_,_,_,_,_,_,_,_,_,_,_,_,_,_,_,_,_,_,_,_,_,_,_,_,_,_,_,_,_,_,_,_,_,_,_,_,_,_,_,_,_,_,_,_,_,_,_,_,_,_,_,_,_,_,_,_,_,_,_,_,_,rfl⟩
   case body=>
    rintro l pre x a' W hl ⟨rr,hr⟩ ⟨kW,bh,wq,Px,AE,oX,qI,Qj⟩ ⟨z0,z1,z3,z5,z6,z7,z9,z11,z12,z13,z14,z15,z16,z17,z18,z19,z20,z21,z22,z23,z24,z25,z26,z27,z28,z29,z30,z31,z32,z33,z34,z35,z36,z37,z38,z39,z40,z41,z42,z43,z44,z45,z46,z47,z48,z49,z50,z51,z52,z53,z54,z55,z56,z57,z58,z59,z60,z61,z62,z63,z64,z65,z66,z67,z68,z69,z70,z71,z72,z73,z74,z75,z76,z77,z78,z79,z80,z81,z82,z83,z84,z85,z86,z87,z88,z89,z90,rfl⟩ aw;have OW:=ab (O3.out.WN HG.out kW oX qI);have hx:=x.2;have dL:=HB.out.row HG.out (j:=i0+x.1) (by omega) (by have:=CK.out;omega);have I4:gU g.x.s i0 x.1=bd g.x.s (i0+x.1)-bd g.x.s i0:=rfl;have HPX:Hid (bd g.x.s (i0+x.1)=bd g.x.s i0+gU g.x.s i0 x.1):=by show _=_;omega
    have iM:gU g.x.s i0 x.1<g.nr:=(by omega);clear dL I4;generalize FA:gU g.x.s i0 x.1=px at*;have N9:=ab FA;clear FA;have B3W:=ab (B3.out.kept kW (by omega));have B4W:=ab (RQ.out.kept kW (by omega));have CG:=ab Px
    have Ow:Hid (∀W',aa af W W'->Za g.ob w.heap.size g.rh g.nr g.cr g.WB g.L px bh wr.heap.size (bd g.x.s i0) W'):=fun W' k=>by
     have O7:=OW.out.kept k;exact⟨⟨(B3W.out.kept k (fun h=>h)).cell 0,O7.rk.out.cell 11⟩,O7.rh px iM,O7.rh bh AE,(CG.out.kept k (fun h=>h)).cell 0,(B4W.out.kept k (fun h=>h)).cell 0⟩
    have aj:=Ow.out W.drew (aa.refl af W).drew;gi_wp2;refine aoU (aoV (S:=Za g.ob w.heap.size g.rh g.nr g.cr g.WB g.L px bh wr.heap.size (bd g.x.s i0)) 18 (by kernel_rfl) (aj2 _) (by kernel_rfl) rfl rfl rfl (by kernel_rfl) (by kernel_rfl) ?_);refine ai 0 71 (.pointer (some ⟨g.ob,0,none⟩)) aj ?_;refine ai 1 72 (.pointer (some ⟨g.ob,0,none⟩)) aj ?_;refine ai 2 73 (.pointer (some ⟨g.ob,0,none⟩)) aj ?_;refine ai 3 74 (.pointer (some ⟨g.ob,11,none⟩)) aj ?_;refine ai 4 75 (.slice (some ⟨g.rh,0,none⟩) g.nr g.cr) aj ?_;refine ai 5 76 (.int .i64 (px:Int)) aj ?_;refine ai 6 77 (.pointer (some ⟨g.rh,px,none⟩)) aj ?_;refine ai 7 78 (.slice (some ⟨g.WB,px*g.L,none⟩) g.L g.L) aj ?_;refine ai 8 79 (.pointer (some ⟨g.ob,0,none⟩)) aj ?_;refine ai 9 80 (.pointer (some ⟨g.ob,0,none⟩)) aj ?_;refine ai 10 81 (.pointer (some ⟨g.ob,11,none⟩)) aj ?_;refine ai 11 82 (.slice (some ⟨g.rh,0,none⟩) g.nr g.cr) aj ?_;refine ai 12 83 (.int .i64 (bh:Int)) aj ?_;refine ai 13 84 (.pointer (some ⟨g.rh,bh,none⟩)) aj ?_;refine ai 14 85 (.slice (some ⟨g.WB,bh*g.L,none⟩) g.L g.L) aj ?_;refine ai 15 86 (.int .i64 (bd g.x.s i0:Int)) aj ?_;refine ai 16 87 (.int .i64 (px:Int)) aj ?_;refine pj 17 88 (.int .i64 (bd g.x.s (i0+x.1):Int)) rfl rfl (by kernel_rfl) (by kernel_rfl) (by kernel_rfl) (fun _ _ _ h=>h) (Or.inl ⟨by rfl,fun W eP=>by obtain⟨⟨s0,s1⟩,s2,s3,s4,s5⟩:=eP;go_simp;rw[Cv];have:=HPX.out;have:=iP g.x.s (i0+x.1);omega⟩) aj ?_;simp only[Act.put,Aa,Ad,Ac];refine At (by kernel_rfl) ?_ _;unfold eJ;simp only[Al,Ag,Ai];go_simp
    have Gj:=ad4 (c1:=g.L) (c2:=g.L) (i:=i0+x.1) (H:=pre.map (·.1)=rm (x.1+1) d) (OW.out.rk.kept ((aa.refl af W).drew) (fun h=>h) (fun h=>h) (fun _ _ _ h=>h) (fun h=>h) (fun h=>h)) HG.out.ft HG.out.q HG.out.bT (by omega) (show i0+x.1<=(aF g.x.s).length by have:=CK.out;have:=HB.out.in_;omega) (CX.alj (by have:=CK.out;have:=HB.out.in_;have:=x.2;omega)) HG.out.Ia
     (show aq W.drew g.WB (de wq).toArray 207 from oX) (vW qI.1 iM) HG.out.KO (ald HG.out HB.out CK.out hx N9.out iM AE qI.1 qI.2 (fun h=>Qj (x.1+1) hx h))
    refine Gj.mono ?_;rintro e w7 ⟨rfl,iE,aL,fa,bj,yq,vz⟩;dsimp only;refine jw ?_;have k7:aa (fun i=>i=g.WB) W w7:=(aa.refl (fun i=>i=g.WB) W).drew.trans iE;have hWs:=kW.size;have OJ:aq w7 wr.heap.size #[.int .i64 (bh:Int)] 3:=Px.kept k7 (by omega);have c87:w7.cell? ⟨wr.heap.size,0,none⟩=some (.int .i64 (bh:Int)):=OJ.cell 0;have f87:=OJ.frozen 0;have hW8:wr.heap.size<W.heap.size:=Px.lt;have kS:aa (fun i=>i=g.WB\/i=wr.heap.size) W (w7.setCell ⟨wr.heap.size,0,none⟩ (.int .i64 (px:Int))):=aa.setCell (S:=fun i=>i=g.WB\/i=wr.heap.size) (k7.mono (fun i h=>Or.inl h)) (p:=⟨wr.heap.size,0,none⟩) (Or.inl (Or.inr rfl)) _
    have ax:Hid (KeepsFrom w6.heap.size W (w7.setCell ⟨wr.heap.size,0,none⟩ (.int .i64 (px:Int)))/\jO (wr.heap.size+1) pb W (w7.setCell ⟨wr.heap.size,0,none⟩ (.int .i64 (px:Int)))/\Ib g w3 wr.heap.size b i0 d (pre++[x]) (w7.setCell ⟨wr.heap.size,0,none⟩ (.int .i64 (px:Int)))):=by
     have I6:=k7.size;refine⟨⟨by have:=kS.size;exact this,fun k o hB hk ho=>(kS.block k ((Ak.1 hk).1) (by omega)).trans hk⟩,⟨kS.block _ (by have:=(Ak.1 hr).1;omega) (by omega),kS.block _ (by omega) (by omega)⟩,(kW.trans k7).setCell (p:=⟨wr.heap.size,0,none⟩) (Or.inr (by show w3.heap.size<=wr.heap.size;omega)) _,px,splice wq (px*g.L) aL,?_,iM,?_,⟨by rw[Dd _ _ _ (by rw[fa];exact vW qI.1 iM)];exact qI.1,qI.2.splice bj _⟩,fun k hk he=>?_⟩
     ·have:=OJ.setCell 0 (.int .i64 (px:Int));simpa using this
     ·exact yq.kept ((aa.refl (fun i=>i=wr.heap.size) w7).setCell (p:=⟨wr.heap.size,0,none⟩) (Or.inl rfl) _) (by omega)
     ·rw[Ch]at he;obtain⟨aT,Vx,om⟩:=ahl hk he;have Vx:x.1=k:=Vx;rw[Vx]at vz N9;obtain⟨h2,h3⟩:=Qj (k+1) aT om;exact⟨N9.out.symm,ane HG.out HB.out CK.out aT N9.out iM qI.1 fa h3 (vz om)⟩
    clear vz yq bj fa k7 kS OJ iE;gi_wp2;exact ax.out
   case done=>
    rintro D ys W hD hys ⟨kW,bh,wq,Px,AE,oX,qI,Qj⟩ hK;gi_wp2;refine⟨by simp,.inl ⟨_,_,rfl,run_takeDeferred hK,?_⟩⟩;have I7:=kW.size;have kP:aa (fun i=>i=g.WB) w3 (W.putObj D (.deferred none)):=kW.putObj (by omega) _;have hbP:aq (W.putObj D (.deferred none)) g.WB (de wq).toArray 207:=(De (by omega)).trans oX;refine⟨_,Df rfl _ _ _,rfl,wq,O3.out.WN HG.out kP hbP qI,?_,K3.out.trans (kP.mono (fun i h=>Or.inr h))⟩;have:=(Qj 0 (Am _) hys).2;simpa using this
   case stop=>
    rintro D c pre W _ _ h _;exact h.elim
theorem acG(hg:g.Ok)(hO:ij w g ak wf wr)(hb:b+1<g.aD.length)(hF:zC g wf (b+1) (g.aD.getD (b+1) 0)):
 Calls prog 89 #[.pointer (some ⟨g.ob,0,none⟩),.int .i64 (b:Int)] w fun e w'=>e=.returned (.tuple #[])/\∃xI,ij w' g b wf xI/\uV g xI b (g.aD.getD b 0)/\aa (fun i=>i=g.ob\/i=g.WB) w w':=
 Fv.1 (aku 6 (by omega) hg hO (xK.of hg hb) hF)
structure oO(w:World)(g:OG)(ak:Nat)(wf wr:List Nat):Prop where
 at_:ij w g ak wf wr
 lt:ak+1<g.aD.length
 Ln:∀k,k<g.aD.length->zC g wf k (g.aD.getD k 0)
 rows:uV g wr ak (g.aD.getD ak 0)
theorem oO.kept{w':World}(h:oO w g ak wf wr)(k:aa af w w'):oO w' g ak wf wr:=⟨h.at_.kept k,h.lt,h.Ln,h.rows⟩
theorem Ti(hi:i<=(aF s).length)(hj:j<=(aF s).length):bd s i<bd s j↔i<j:=by
 constructor
 ·intro h;refine Nat.lt_of_not_le fun hle=>?_
  have:=fY s hle;omega
 ·intro h;exact zJ h (by omega)
theorem abr(hg:g.Ok)(h:ij w g ak wf wr)(hr:r<g.nr)(hu:u<g.ms.length)(m:Nat):
 Calls prog 90 #[.slice (some ⟨g.WB,r*g.L,none⟩) g.L g.L,.int .i64 (u:Int)] (w.drewN m) fun e w'=>e=.returned (.bool (gh wr (r*g.L) u))/\w'=w.drewN m:=by
 have hf:=vW (g:=g) h.wl.1 hr;have ku:u/64<g.L:=by have:=hg.Ia;omega
 have hc:(w.drewN m).cell? ⟨g.WB,r*g.L+u/64,none⟩=some (.int .u64 (wr.getD (r*g.L+u/64) 0:Nat)):=by
  have:=h.bw.cell (r*g.L+u/64);rw[zg (by omega)]at this;exact this
 have dh:=hg.bT;exact Uv (w.drewN m) g.WB (r*g.L) g.L g.L _ u (h.wl.2.getD _) ku (by omega) hc
theorem Tu{wd:List Nat}(hg:g.Ok)(hO:oO w g ak wf wd)(hu:u<g.ms.length)(hi:i<=(aF g.x.s).length)(oe:g.aD.getD ak 0<=i):
 Calls prog 61 #[.pointer (some ⟨g.ob,0,none⟩),.int .i64 (u:Int),.int .i64 (bd g.x.s i:Int)] w fun e w'=>e=.returned (.bool (dM g.ms g.x u i))/\∃KR pY,oO w' g KR wf pY/\g.aD.getD KR 0<=i/\aa (fun i=>i=g.ob\/i=g.WB) w w':=by
 have UC:=hO.lt;have dh:=hg.bg.bT;have aS:=hg.size;have Pz:=iP g.x.s i;have KX:w.cell? ⟨g.ob,10,none⟩=some (.int .i64 (ak:Int)):=hO.at_.rk.out.cell 10;have c8:w.cell? ⟨g.ob,8,none⟩=some (.slice (some ⟨g.cK,0,none⟩) g.aD.length g.cb):=hO.at_.rk.out.cell 8;have HG:=ab hg;have HO:=ab hO;have CH:=ab oe;clear hg hO oe;go_in;go_wp2_with fail;go_loopg [7] (g.aD.length-ak) (fun kk v wq=>∃k:Nat,v=.int .i64 (k:Int)/\k+1<g.aD.length/\ak<=k/\kk=g.aD.length-k/\Hid (g.aD.getD k 0<=i)/\wq=w)
 case atStart=>exact⟨ak,rfl,UC,Ab _,rfl,CH,rfl⟩
 case round=>
  obtain⟨k,rfl,aT,aO,eT,HK,hww⟩:=hrel;have ajB:w=wr:=hww.symm;subst ajB;clear hww;have zu:=ab (HG.out.bg.in_ (k+1));have cb:w.cell? ⟨g.cK,k+1,none⟩=some (.int .i64 (bd g.x.s (g.aD.getD (k+1) 0):Int)):=HO.out.at_.bg (k+1) aT;have vA:=iP g.x.s (g.aD.getD (k+1) 0);obtain⟨b1,iA⟩:∃b1,Hid (bd g.x.s (g.aD.getD (k+1) 0)=b1):=⟨_,(rfl:_=_)⟩
  rw[iA.out]at cb vA;by_cases rF:b1<bd g.x.s i
  ·have bA:k+1+1<g.aD.length:=by
    have wY:g.aD.getD (k+1) 0<i:=(Ti zu.out hi).1 (by rw[iA.out];exact rF);refine Nat.lt_of_not_le fun hle=>?_
    have e:k+1=g.aD.length-1:=(by omega);have:=HG.out.bg.eQ;rw[<-e]at this;omega
   have HKI:Hid (g.aD.getD (k+1) 0<=i):=by
    have wY:g.aD.getD (k+1) 0<i:=(Ti zu.out hi).1 (by rw[iA.out];exact rF);show _<=_
    omega
   have aiN:(b1:Int)<(bd g.x.s i:Int):=(by omega);go_wp2_with fail;go_roundg (g.aD.length-(k+1))
   case measure=>omega
   case rel=>exact⟨k+1,by simp,bA,by omega,rfl,HKI,rfl⟩
  ·have YB:Hid (i<=g.aD.getD (k+1) 0):=(Fh fun h=>rF (by rw[<-iA.out];exact(Ti zu.out hi).2 h));have Y0:=ab ((xK.of HG.out aT).row HG.out HK.out YB.out);have aiy:=iP g.x.s (g.aD.getD k 0);have cb0:w.cell? ⟨g.cK,k,none⟩=some (.int .i64 (bd g.x.s (g.aD.getD k 0):Int)):=HO.out.at_.bg k (by omega);obtain⟨b0,xN⟩:∃b0,Hid (bd g.x.s (g.aD.getD k 0)=b0):=⟨_,(rfl:_=_)⟩
   rw[xN.out]at cb0 aiy;obtain⟨r,HR⟩:∃r,Hid (bd g.x.s i=b0+r):=⟨bd g.x.s i-b0,by show _=_;have:=Y0.out;have:=xN.out;omega⟩
   have sW:r<g.nr:=by have:=Y0.out;have:=HR.out;have:=xN.out;omega
   have I9:(bd g.x.s i:Int)-(b0:Int)=(r:Int):=by have:=HR.out;omega
   have ax:Hid (∀(w':World) (pY:List Nat),oO w' g k wf pY->gh pY (r*g.L) u=dM g.ms g.x u i):=fun w' pY h=>by
    have:=h.rows i HK.out YB.out u hu;have e:bd g.x.s i-g.from k=r:=by unfold OG.from;have:=HR.out;have:=xN.out;omega
    rw[e]at this;exact this
   have aiN:¬(b1:Int)<(bd g.x.s i:Int):=(by omega);by_cases ek:k=ak
   ·subst ek;have Z_:w.cell? ⟨g.ob,11,none⟩=some (.slice (some ⟨g.rh,0,none⟩) g.nr g.cr):=HO.out.at_.rk.out.cell 11;have crh:w.cell? ⟨g.rh,r,none⟩=some (.slice (some ⟨g.WB,r*g.L,none⟩) g.L g.L):=HO.out.at_.rh r sW;have Hp:=(ab fun m=>abr HG.out HO.out.at_ sW hu m);go_wp2_with fail;go_big_quiet (first|(go_at_call 90;refine As (Hp.out _)));go_wp2_with fail;go_ret;have e:=ax.out _ _ HO.out;rw[e];exact⟨rfl,k,wd,HO.out.kept ((aa.refl af w).drewN nq),HK.out,(aa.refl _ w).drewN nq⟩
   ·have ek2:((k:Int) != (ak:Int))=true:=by simp;omega
    have F:=ab (acG HG.out HO.out.at_ aT (HO.out.Ln (k+1) aT));go_wp2_with fail;refine(F.out).mono ?_;rintro e w2 ⟨rfl,wd2,h2,h3,k2⟩;have O2:Hid (oO w2 g k wf wd2):=⟨h2,aT,HO.out.Ln,h3⟩;have Z_:w2.cell? ⟨g.ob,11,none⟩=some (.slice (some ⟨g.rh,0,none⟩) g.nr g.cr):=h2.rk.out.cell 11;have c82:w2.cell? ⟨g.ob,8,none⟩=some (.slice (some ⟨g.cK,0,none⟩) g.aD.length g.cb):=h2.rk.out.cell 8;have cb2:w2.cell? ⟨g.cK,k,none⟩=some (.int .i64 (b0:Int)):=by rw[<-xN.out];exact h2.bg k (by omega)
    have crh:w2.cell? ⟨g.rh,r,none⟩=some (.slice (some ⟨g.WB,r*g.L,none⟩) g.L g.L):=h2.rh r sW;have Hp:=(ab fun m=>abr HG.out h2 sW hu m);have K2:=ab k2;clear h2 h3 k2 F cb cb0 c8 KX;go_wp2_with fail;go_big_quiet (first|(go_at_call 90;refine As (Hp.out _)));go_wp2_with fail;go_ret;have e:=ax.out _ _ O2.out;rw[e];exact⟨rfl,k,wd2,O2.out.kept ((aa.refl af w2).drewN nq),HK.out,K2.out.drewN nq⟩
theorem anQ(ho:o+aL.length<=ws.length)(hk:k<aL.length):(splice ws o aL).set (o+k) x=splice ws o (aL.set k x):=by
 unfold splice;rw[Eh _ _ (by simp;omega),List.set_append_left _ _ (by simp;omega)];simp only[D4,Bk];rw[show o+k-min o ws.length=k by omega]
theorem af4(h:∀j,j<L->aL.getD j 0=18446744073709551615)(hu:u/64<L):gh aL 0 u=true:=by
 unfold gh;rw[Ba,h _ hu,show(18446744073709551615:Nat)=2^64-1 by decide,Nat.testBit_two_pow_sub_one];simp;omega
def KC(w wr:World)(B o L:Nat)(ws:List Nat)(k:Nat):Prop:=∃aL:List Nat,aL.length=L/\fW aL/\aq wr B (de (splice ws o aL)).toArray 207/\aa (fun i=>i=B) w wr/\∀j,j<k->aL.getD j 0=18446744073709551615
theorem KC.put{wr:World}(h:KC w wr B o L ws k)(ho:o+L<=ws.length)(hk:k<L):KC w (wr.setCell ⟨B,o+k,none⟩ (.int .u64 18446744073709551615)) B o L ws (k+1):=by
 obtain⟨aL,h1,h2,h3,h4,h5⟩:=h;refine⟨aL.set k 18446744073709551615,by simpa using h1,fun x hx=>?_,?_,h4.setCell (p:=⟨B,o+k,none⟩) (Or.inl rfl) _,fun j hj=>?_⟩
 ·rcases Dr hx with h|h
  ·exact h2 x h
  ·omega
 ·have:=h3.setCell (o+k) (.int .u64 ((18446744073709551615:Nat):Int));rw[ae8,anQ (by omega) (by omega)]at this;exact this
 ·rw[Lr _ _ _ _ _ (by omega)];split
  ·rfl
  ·exact h5 j (by omega)
theorem amL{c:Nat}(h:aq w B (de ws).toArray 207)(hw:fW ws)(ho:o+L<=ws.length)(hL:L<100000):
 Calls prog 87 #[.slice (some ⟨B,o,none⟩) L c] w fun e w'=>e=.returned (.tuple #[])/\aa (fun i=>i=B) w w'/\∃aL,aL.length=L/\fW aL/\aq w' B (de (splice ws o aL)).toArray 207/\∀u,u/64<L->gh aL 0 u=true:=by
 have dr:Hid (KC w w B o L ws 0):=⟨kV ws o L,JC ho,hw.kV _ _,by rw[anP ho];exact h,aa.refl _ _,fun j hj=>by omega⟩;have HO:=ab ho;clear h hw ho;go_in;go_wp2_with fail;go_loopg [5] L (fun kk v wr=>∃k:Nat,v=.int .i64 (k:Int)/\k<=L/\kk=L-k/\Hid (KC w wr B o L ws k))
 case atStart=>exact⟨0,rfl,Am _,rfl,dr⟩
 case round=>
  obtain⟨k,rfl,hk,eT,HI⟩:=hrel;clear dr;by_cases aw:k<L
  ·have jH:(k:Int)<(L:Int):=(by omega);obtain⟨aL,h1,h2,h3,h4,h5⟩:=HI.out;have c1:=h3.cell (o+k);rw[zg (by rw[Dd _ _ _ (by rw[h1];exact HO.out)];have:=HO.out;omega)]at c1;have f1:=h3.frozen (o+k);generalize(((splice ws o aL).getD (o+k) 0:Nat):Int)=c0 at c1;clear h3;have ax:=ab (HI.out.put HO.out aw);clear h1 h2 h4 h5 HI;go_wp2_with fail;go_roundg (L-(k+1))
   case measure=>omega
   case rel=>exact⟨k+1,by simp,by omega,rfl,ax⟩
  ·have jH:¬(k:Int)<(L:Int):=by omega
   have ax:Hid (aa (fun i=>i=B) w wr/\∃aL,aL.length=L/\fW aL/\aq wr B (de (splice ws o aL)).toArray 207/\∀u,u/64<L->gh aL 0 u=true):=by
    obtain⟨aL,h1,h2,h3,h4,h5⟩:=HI.out;exact⟨h4,aL,h1,h2,h3,fun u hu=>af4 (L:=L) (fun j hj=>h5 j (by omega)) hu⟩
   clear HI;go_wp2_with fail;go_end0;exact⟨rfl,ax.out⟩
end Go.Proofs.YtpdnofhackjfdaaGreatDoor
