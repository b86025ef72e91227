/- Package whole's  -/
import Derived.Test.YtpdnofhackjfdaaGreatDoorP23
set_option linter.all false
set_option maxRecDepth 100000
set_option maxHeartbeats 8000000
namespace Go.Proofs.YtpdnofhackjfdaaGreatDoor
open Go.Proofs.Tryz
open Go.RowKit Go.Maps
attribute [local go_sem] E8
variable {P s:ByteArray} {aO wf wq wr ws:List Nat} {B L b aq d i i0 i1 ip j k o px r u x:Nat} {g:OG} {v:Value} {W w w3:World}
structure yq(g:OG)(b i0 i1:Nat):Prop where
 lt:b+1<g.aH.length
 e0:g.aH.getD b 0=i0
 e1:g.aH.getD (b+1) 0=i1
 le:i0<=i1
 in_:i1<=(aJ g.x.s).length
 Ol:bd g.x.s i1<=bd g.x.s i0+4099
theorem yq.of(hg:g.Ok)(hb:b+1<g.aH.length):yq g b (g.aH.getD b 0) (g.aH.getD (b+1) 0):=
 ⟨hb,rfl,rfl,(hg.bg.step b hb).1,hg.bg.in_ _,(hg.bg.step b hb).2⟩
theorem yq.row(h:yq g b i0 i1)(hg:g.Ok)(h0:i0<=j)(h1:j<=i1):bd g.x.s i0<=bd g.x.s j/\bd g.x.s j-bd g.x.s i0<g.nr:=by
 have a:=fZ g.x.s h0;have b:=fZ g.x.s h1;have c:=h.Ol;have d:=i_ g.x.s j;have e:=hg.adQ;omega
theorem wO{n:Nat}(hl:ws.length=n*g.L)(h:r<n):r*g.L+g.L<=ws.length:=by
 rw[hl];have:=Bv g.L (show r+1<=n by omega);rw[Cw]at this;omega
theorem Yl{r':Nat}(h:r≠r'):r'*L+L<=r*L\/r*L+L<=r'*L:=by
 rcases Nat.lt_or_gt_of_ne h with h1|h1
 ·have:=Bv L (show r+1<=r' by omega);rw[Cw]at this;omega
 ·have:=Bv L (show r'+1<=r by omega);rw[Cw]at this;omega
def ig(s:ByteArray)(i0 d:Nat):Nat:=bd s (i0+d)-bd s i0
def Ko(s:ByteArray)(i0 n:Nat):List Value:=(List.range n).map fun d=>GW (ig s i0 d:Int)
structure AN(w3 wr:World)(s P:ByteArray)(i0 i1:Nat)(v:Value)(d ip:Nat):Prop where
 le:i0+d<=i1
 row:wr.ownsRow (w3.heap.size+1) 3 1 v d (Ko s i0 d)
 iter:wr.heap[w3.heap.size]? =some (.stringIter P ip)
 kept:aa ai w3 wr
 size:w3.heap.size+1<=wr.heap.size
theorem AN.DN{wr:World}(h:AN w3 wr s P i0 i1 v d ip)(Ih:Nat):AN w3 (wr.iterAt w3.heap.size P Ih) s P i0 i1 v d Ih:=by
 have k:aa (fun i=>i=w3.heap.size) wr (wr.iterAt w3.heap.size P Ih):=(aa.refl (fun i=>i=w3.heap.size) wr).iterAt (k:=w3.heap.size) (Or.inl rfl) P _;exact⟨h.le,bU h.row k (fun b hb hx=>by have:=(dw h.row hb).1;omega),Lib.iterAt_heap wr _ P _ _ h.iter,h.kept.b_ k (fun i hi he=>by omega),by rw[Fw];exact h.size⟩
theorem anC(s:ByteArray)(i0 d:Nat):Ko s i0 (d+1)=Ko s i0 d++[GW (ig s i0 d:Int)]:=by unfold Ko;rw[Fx];simp
theorem AN.Ow{wr w7:World}{v':Value}(h:AN w3 wr s P i0 i1 v d ip)(az:i0+d<i1)(k0:aa ai wr W)
 (bC:w7.ownsRow (w3.heap.size+1) 3 1 v' (d+1) (Ko s i0 d++[GW (ig s i0 d:Int)]))(hg:W.grownBy w7 v.ownBlock):AN w3 w7 s P i0 i1 v' (d+1) ip:=by
 have k7:aa (fun j=>v.ownBlock=some j) wr w7:=(k0.mono (fun i hx=>hx.elim)).eP hg (fun j hj=>Or.inl hj);refine⟨az,by rw[anC];exact bC,(k7.block _ (by have:=h.size;omega) (fun e=>by have:=(dw h.row e).1;omega)).trans h.iter,h.kept.b_ k7 (fun j hj he=>by have:=(dw h.row he).1;omega),Bh h.size k7.size⟩
theorem ane(h:i0+d<i1)(hi:i1<=(aJ s).length):ig s i0 d<(s.extract (bd s i0) (bd s i1)).size/\ig s i0 d+(Utf8.decode (s.extract (bd s i0) (bd s i1)) (ig s i0 d)).2=ig s i0 (d+1):=by
 have hk:i0+d<(aJ s).length:=by omega
 have m1:=fZ s (show i0<=i0+d by omega);have az:=AX (s:=s) h hk;have pF:=uc hk;have hle:=fZ s (show i0+d+1<=i1 by omega);have aW:(s.extract (bd s i0) (bd s i1)).size=bd s i1-bd s i0:=extract_size s _ _ (i_ s i1)
 have G9:Utf8.decode (s.extract (bd s i0) (bd s i1)) (bd s (i0+d)-bd s i0)=Utf8.decode s (bd s (i0+d)):=by
  have:=Gp s (bd s i0) (bd s i1) (bd s (i0+d)-bd s i0) (i_ s i1) (by omega) (by rw[show bd s i0+(bd s (i0+d)-bd s i0)=bd s (i0+d) by omega];omega);rw[show bd s i0+(bd s (i0+d)-bd s i0)=bd s (i0+d) by omega]at this;exact this
 unfold ig;rw[G9,aW,show i0+(d+1)=i0+d+1 by omega];omega
theorem anc(h:i0+d=i1):¬ig s i0 d<(s.extract (bd s i0) (bd s i1)).size:=by
 have aW:(s.extract (bd s i0) (bd s i1)).size=bd s i1-bd s i0:=extract_size s _ _ (i_ s i1);unfold ig;rw[aW,h];omega
def LdS(ob bx cR n cb b f0 f1:Nat)(W:World):Prop:=W.cell? (GB bx 0)=some (BT ob 0)/\W.cell? (GB ob 8)=some (.slice (some (GB cR 0)) n cb)/\W.cell? (GB cR b)=some (GW (f0:Int))/\W.cell? ⟨cR,b+1,none⟩=some (GW (f1:Int))
def aah(ob bx b4 rh nr cr WB L r fh n cf FB b f0:Nat)(W:World):Prop:=(W.cell? (GB bx 0)=some (BT ob 0)/\W.cell? (GB ob 11)=some (.slice (some (GB rh 0)) nr cr)/\W.cell? (GB ob 9)=some (.slice (some (GB fh 0)) n cf))/\W.cell? (GB rh r)=some (.slice (some ⟨WB,r*L,none⟩) L L)/\W.cell? ⟨fh,b+1,none⟩=some (.slice (some ⟨FB,(b+1)*L,none⟩) L L)/\W.cell? (GB b4 0)=some (GW (f0:Int))
def aai(ob bx b4 f0:Nat)(s:ByteArray)(W:World):Prop:=W.cell? (GB bx 0)=some (BT ob 0)/\W.cell? (GB ob 3)=some (.string s)/\W.cell? (GB b4 0)=some (GW (f0:Int))
theorem aa.putObj{S:Nat->Prop}{a:World}(h:aa S a w){l:Nat}(hl:a.heap.size<=l)(o:Obj):aa S a (w.putObj l o):=
 ⟨h.os,h.tape,h.output,by have:=h.size;simpa using this,fun k hk hs=>(Di (by omega)).trans (h.block k hk hs)⟩
theorem al8(hg:g.Ok){bh:Nat}(hb:yq g b i0 i1)(hd:i0+d=i1)(hx:x<d)(JV:ig g.x.s i0 x=px)(iY:px<g.nr)(CD:bh<g.nr)(hl:wq.length=g.nr*g.L)(hw:gu wq){H:Prop}(hH:H->bh=ig g.x.s i0 (x+1)/\vy g wq b (i0+(x+1))):
 aal W g.WB (px*g.L) g.WB (bh*g.L) g.L wq (fun nx=>H->∀u:Nat,u<g.ms.length->gz nx 0 u=(decide (i0+x<g.x.n)&&dV g.ms g.x u (i0+x+1))):=by
 intro W' aO hk fC bl vY;have Rb:=wO (g:=g) hl iY;have M6:=wO (g:=g) hl CD;have gX:(splice wq (px*g.L) aO).length=wq.length:=Dh _ _ _ (by omega);have eD:=hb.in_;have az:i0+x<(aJ g.x.s).length:=by omega
 have bD:=pY az;have m1:=fZ g.x.s (show i0<=i0+x by omega)
 have aB:H->bh≠px:=fun h e=>by
  have:=(hH h).1;unfold ig at this JV;rw[show i0+(x+1)=i0+x+1 by omega]at this;omega
 by_cases e:bh=px
 ·refine⟨aO,bl,fun k uz=>?_,fun h=>absurd e (aB h)⟩;have:=vY.cell (bh*g.L+k);rw[zZ (by omega),zT _ _ _ (by omega),if_pos (by subst e;omega)]at this;rw[this];subst e;rw[E9]
 ·have uu:=Yl (L:=g.L) (fun h=>e h.symm:px≠bh);refine⟨ll wq (bh*g.L) g.L,hw.ll _ _,fun k uz=>?_,fun h u hu=>?_⟩
  ·have:=vY.cell (bh*g.L+k);rw[zZ (by omega),zT _ _ _ (by omega),if_neg (by omega)]at this;rw[this,SH uz]
  ·have kI:u/64<g.L:=by have:=hg.I6;omega
   obtain⟨h1,h2⟩:=hH h;have h3:=h2 (i0+(x+1)) (Ab _) (by rw[hb.e1];omega) u hu;have e3:bd g.x.s (i0+(x+1))-g.from b=bh:=by unfold OG.from;rw[hb.e0,h1];rfl
   rw[e3]at h3;rw[UH kI,h3];have ajV:i0+x<g.x.n:=az;simp[ajV,Dt]
theorem aod(hg:g.Ok)(hb:yq g b i0 i1)(hd:i0+d=i1)(hk:k<d)(JV:ig g.x.s i0 k=px)(iY:px<g.nr)(hl:wq.length=g.nr*g.L)(fC:aO.length=g.L)(hr:vy g wq b (i0+(k+1)))(hc:∀u:Nat,u<g.ms.length->gz aO 0 u=dV g.ms g.x u (i0+k)):vy g (splice wq (px*g.L) aO) b (i0+k):=by
 intro j r_ lY u hu;have Rb:=wO (g:=g) hl iY;have kI:u/64<g.L:=by have:=hg.I6;omega
 rw[hb.e1]at lY;have eD:=hb.in_;by_cases e:j=i0+k
 ·subst e;have e3:bd g.x.s (i0+k)-g.from b=px:=by unfold OG.from;rw[hb.e0];exact JV
  rw[e3,Qo (by omega) (by omega)];exact hc u hu
 ·have aB:px≠bd g.x.s j-g.from b:=by
   unfold OG.from
   rw[hb.e0,<-JV];have:=AX (s:=g.x.s) (show i0+k<j by omega) (by omega);have:=fZ g.x.s (show i0<=i0+k by omega);unfold ig;omega
  have uu:=Yl (L:=g.L) aB;rw[aaI (L:=g.L) (by omega) (by omega) kI];exact hr j (by omega) (by rw[hb.e1];exact lY) u hu
def ago{N:Nat}(bx B8:Nat)(p:Nat->Nat)(x:Ja N)(a':Act):Prop:=∃z0 z1 z3 z5 z6 z7 z9 z11 z12 z13 z14 z15 z16 z17 z18 z19 z20 z21 z22 z23 z24 z25 z26 z27 z28 z29 z30 z31 z32 z33 z34 z35 z36 z37 z38 z39 z40 z41 z42 z43 z44 z45 z46 z47 z48 z49 z50 z51 z52 z53 z54 z55 z56 z57 z58 z59 z60 z61 z62 z63 z64 z65 z66 z67 z68 z69 z70 z71 z72 z73 z74 z75 z76 z77 z78 z79 z80 z81 z82 z83 z84 z85 z86 z87 z88 z89 z90:Value,a'={tmps:=#[z0,z1,BT bx 0,z3,.pointer (some ⟨bx+1,0,none⟩),z5,z6,z7,BT B8 0,z9,GW (p x.1:Int),z11,z12,z13,z14,z15,z16,z17,z18,z19,z20,z21,z22,z23,z24,z25,z26,z27,z28,z29,z30,z31,z32,z33,z34,z35,z36,z37,z38,z39,z40,z41,z42,z43,z44,z45,z46,z47,z48,z49,z50,z51,z52,z53,z54,z55,z56,z57,z58,z59,z60,z61,z62,z63,z64,z65,z66,z67,z68,z69,z70,z71,z72,z73,z74,z75,z76,z77,z78,z79,z80,z81,z82,z83,z84,z85,z86,z87,z88,z89,z90],defers:=[]}
def I7(g:OG)(w3:World)(B8 b i0 d:Nat)(pre:List (Ja d))(W:World):Prop:=
 aa (fun i=>i=g.WB) w3 W/\∃(bh:Nat) (wq:List Nat),au W B8 #[GW (bh:Int)] 3/\bh<g.nr/\au W g.WB (dr wq).toArray 207/\(wq.length=g.nr*g.L/\gu wq)/\(∀k,k<=d->pre.map (·.1)=rQ k d->bh=ig g.x.s i0 k/\vy g wq b (i0+k))
theorem I7.ay(g:OG)(w3:World)(B8 b i0 d B:Nat)(hB:w3.heap.size<=B):OwnFrom B (I7 g w3 B8 b i0 d):=fun s W W' row h hg hr=>by
 obtain⟨k,bh,wq,h1,h2,h3,h4⟩:=h;exact⟨k.eP hg (fun j e=>Or.inr (by have:=(hr j e).1;omega)),bh,wq,UI B8 _ _ () W W' row h1 hg (fun r e=>(hr r e).2),h2,UI g.WB _ _ () W W' row h3 hg (fun r e=>(hr r e).2),h4⟩
def aag(ob bx rh nr cr WB L px bh B8 f0:Nat)(W:World):Prop:=(W.cell? (GB bx 0)=some (BT ob 0)/\W.cell? (GB ob 11)=some (.slice (some (GB rh 0)) nr cr))/\W.cell? (GB rh px)=some (.slice (some ⟨WB,px*L,none⟩) L L)/\W.cell? (GB rh bh)=some (.slice (some ⟨WB,bh*L,none⟩) L L)/\W.cell? (GB B8 0)=some (GW (bh:Int))/\W.cell? ⟨bx+1,0,none⟩=some (GW (f0:Int))
theorem alm(n:Nat)(hn:3<=n)(hg:g.Ok)(hO:iB w g aq wf wr)(hb:yq g b i0 i1)(hF:AQ g wf (b+1) i1):
 CallsIn Fence.wide n prog 89 #[BT g.ob 0,GW (b:Int)] w fun e w'=>e=.returned (.tuple #[])/\∃yo,iB w' g b wf yo/\vy g yo b i0/\aa (fun i=>i=g.ob\/i=g.WB) w w':=by
 have h1:1<=n:=by omega
 have vZ:=hb.lt;have dy:=hg.bg.bN;have aW:=hg.size;have HG:=ab hg;have HO:=ab hO;have HB:=ab hb;have HF:=ab hF;have aqZ:=hO.rk.o.lt;have aqn:=hO.bw.lt;have aqr:=i_ g.x.s i0;have ab_:=i_ g.x.s i1;have f10:=hO.rk.o.frozen 10;have Md:w.cell? (GB g.ob 10)=some (GW (aq:Int)):=hO.rk.o.cell 10;clear hg hO hb hF;refine callsIn_of_wp_marks func89 rfl trivial ?_ rfl;simp only[ntmps89,Dm,Ax,Bf,Nat.reduceAdd,Nat.reduceSub,Df,Dg,Dz,Do,Dp,C4];refine wpIn_wide.2 ?_;go_wp2_with fail;have js:(w.setCell (GB g.ob 10) (GW (b:Int))).heap.size=w.heap.size:=by simp[World.setCell]
 have K1:Hid (aa (fun i=>i=g.ob) w ((w.setCell (GB g.ob 10) (GW (b:Int))).alloc (.cells #[BT g.ob 0] 136))):=((aa.refl (fun i=>i=g.ob) w).setCell (p:=(GB g.ob 10)) (Or.inl rfl) _).alloc _;have O1:Hid (iB ((w.setCell (GB g.ob 10) (GW (b:Int))).alloc (.cells #[BT g.ob 0] 136)) g b wf wr):=(HO.o.aoA HG.o b).kept ((aa.refl ai _).alloc _)
 have B1:Hid (au ((w.setCell (GB g.ob 10) (GW (b:Int))).alloc (.cells #[BT g.ob 0] 136)) w.heap.size #[BT g.ob 0] 136):=by
  have:=au.new (w.setCell (GB g.ob 10) (GW (b:Int))) #[BT g.ob 0] 136;rw[js]at this;exact this
 have cZ:((w.setCell (GB g.ob 10) (GW (b:Int))).alloc (.cells #[BT g.ob 0] 136)).heap.size=w.heap.size+1:=by rw[fP,js]
 generalize((w.setCell (GB g.ob 10) (GW (b:Int))).alloc (.cells #[BT g.ob 0] 136))=w1 at*
 clear js;clear f10 Md HO;have e0:=HB.o.e0;have e1:=HB.o.e1
 have PS:Hid (∀W,aa ai w1 W->LdS g.ob w.heap.size g.cR g.aH.length g.cb b (bd g.x.s i0) (bd g.x.s i1) W):=fun W k=>by
  have O2:=O1.o.kept k;refine⟨(B1.o.kept k (fun h=>h)).cell 0,O2.rk.o.cell 8,?_,?_⟩
  ·rw[<-e0];exact O2.bg b (by omega)
  ·rw[<-e1];exact O2.bg (b+1) (by omega)
 clear e0 e1;have ak:=PS.o w1.drew (aa.refl ai w1).drew;refine j_ (Cl (by kernel_rfl) (Ci (S:=LdS g.ob w.heap.size g.cR g.aH.length g.cb b (bd g.x.s i0) (bd g.x.s i1)) _ _ _ _ ?_));refine aj 0 15 (BT g.ob 0) ak ?_;refine aj 1 16 (BT g.ob 0) ak ?_;refine aj 2 17 (BT g.ob 8) ak ?_;refine aj 3 18 (.slice (some (GB g.cR 0)) g.aH.length g.cb) ak ?_;refine aj 4 19 (GW (b:Int)) ak ?_;refine mP 5 20 (BT g.cR b) rfl rfl (by kernel_rfl) (by kernel_rfl) (by kernel_rfl) (fun _ _ _ h=>h) (Or.inl ⟨by rfl,fun W ff=>by obtain⟨s0,s1,s2,s3⟩:=ff;go_simp;intro hx;exact absurd hx (by omega)⟩) ak ?_;refine aj 6 21 (GW (bd g.x.s i0:Int)) ak ?_;refine aj 7 22 (BT g.ob 0) ak ?_;refine aj 8 23 (BT g.ob 0) ak ?_;refine aj 9 24 (BT g.ob 8) ak ?_;refine aj 10 25 (.slice (some (GB g.cR 0)) g.aH.length g.cb) ak ?_;refine aj 11 26 (GW (b:Int)) ak ?_;refine mP 12 27 (GW ((b:Int)+1)) rfl rfl (by kernel_rfl) (by kernel_rfl) (by kernel_rfl) (fun _ _ _ h=>h) (Or.inl ⟨by rfl,fun W ff=>by obtain⟨s0,s1,s2,s3⟩:=ff;go_simp;rw[Cr];omega⟩) ak ?_;refine mP 13 28 (.pointer (some ⟨g.cR,b+1,none⟩)) rfl rfl (by kernel_rfl) (by kernel_rfl) (by kernel_rfl) (fun _ _ _ h=>h) (Or.inl ⟨by rfl,fun W ff=>by obtain⟨s0,s1,s2,s3⟩:=ff;go_simp;intro hx;exact absurd (hx (by omega)) (by omega)⟩) ak ?_;refine aj 14 29 (GW (bd g.x.s i1:Int)) ak ?_;simp only[Act.put,Aa,Ad,Ac];refine bR 15 fun K hK=>?_
 go_simp;have kA:aa ai w1 (w1.alloc (.cells #[GW 0] 3)).drew:=((aa.refl ai w1).alloc _).drew;refine hK.o _ _ (PS.o _ kA) (fun _=>?_);clear hK K;have kB:aa ai w1 (w1.alloc (.cells #[GW (bd g.x.s i0:Int)] 3)).drew:=((aa.refl ai w1).alloc _).drew;have B4:Hid (au (w1.alloc (.cells #[GW (bd g.x.s i0:Int)] 3)).drew (w.heap.size+1) #[GW (bd g.x.s i0:Int)] 3):=by have:=au.new w1 #[GW (bd g.x.s i0:Int)] 3;rw[cZ]at this;exact this
 have gg:(w1.alloc (.cells #[GW (bd g.x.s i0:Int)] 3)).drew.heap.size=w.heap.size+1+1:=by simp[World.drew,cZ]
 have O2:=ab (O1.o.kept kB);have B2:=ab (B1.o.kept kB (fun h=>h));have K2:=ab (K1.o.trans (kB.mono (fun _ h=>h.elim)));have KB:=ab kB;clear kA kB;refine bR 16 fun K hK=>?_
 go_simp;refine hK.o _ _ (PS.o _ KB.o) (fun _=>?_);clear hK K;refine bR 17 fun K hK=>?_
 go_simp;refine hK.o _ _ (PS.o _ KB.o) (fun _=>?_);clear hK K;refine At (by kernel_rfl) ?_ _;refine jE ?_;generalize(w1.alloc (.cells #[GW (bd g.x.s i0:Int)] 3)).drew=w2 at*;clear PS ak KB O1 B1 K1 cZ;go_wp2_with fail;obtain⟨r,kQ⟩:∃r,Hid (bd g.x.s i1=bd g.x.s i0+r):=⟨bd g.x.s i1-bd g.x.s i0,by show _=_;have:=fZ g.x.s HB.o.le;omega⟩
 have tt:r<g.nr:=by have:=HB.o.row HG.o HB.o.le (Ab _);have:=kQ.o;omega
 have AM:Hid (∀W,aa ai w2 W->aah g.ob w.heap.size (w.heap.size+1) g.rh g.nr g.cr g.WB g.L r g.fh g.aH.length g.cf g.FB b (bd g.x.s i0) W):=fun W k=>by
  have O3:=O2.o.kept k;exact⟨⟨(B2.o.kept k (fun h=>h)).cell 0,O3.rk.o.cell 11,O3.rk.o.cell 9⟩,O3.rh r tt,O3.fh (b+1) vZ,(B4.o.kept k (fun h=>h)).cell 0⟩
 have ak:=AM.o w2.drew (aa.refl ai w2).drew;refine j_ (gD (S:=aah g.ob w.heap.size (w.heap.size+1) g.rh g.nr g.cr g.WB g.L r g.fh g.aH.length g.cf g.FB b (bd g.x.s i0)) 17 (by kernel_rfl) rfl rfl rfl (by kernel_rfl) (by kernel_rfl) ?_);refine aj 0 30 (BT g.ob 0) ak ?_;refine aj 1 31 (BT g.ob 0) ak ?_;refine aj 2 32 (BT g.ob 11) ak ?_;refine aj 3 33 (.slice (some (GB g.rh 0)) g.nr g.cr) ak ?_;refine aj 4 34 (GW (bd g.x.s i1:Int)) ak ?_;refine aj 5 35 (GW (bd g.x.s i0:Int)) ak ?_;refine mP 6 36 (GW (r:Int)) rfl rfl (by kernel_rfl) (by kernel_rfl) (by kernel_rfl) (fun _ _ _ h=>h) (Or.inl ⟨by rfl,fun W ff=>by obtain⟨⟨s0,s1,s2⟩,s3,s4,s5⟩:=ff;go_simp;rw[Cr];have:=kQ.o;omega⟩) ak ?_;refine aj 7 37 (BT g.rh r) ak ?_;refine aj 8 38 (.slice (some ⟨g.WB,r*g.L,none⟩) g.L g.L) ak ?_;refine aj 9 39 (BT g.ob 0) ak ?_;refine aj 10 40 (BT g.ob 0) ak ?_;refine aj 11 41 (BT g.ob 9) ak ?_;refine aj 12 42 (.slice (some (GB g.fh 0)) g.aH.length g.cf) ak ?_;refine aj 13 43 (GW (b:Int)) ak ?_;refine mP 14 44 (GW ((b:Int)+1)) rfl rfl (by kernel_rfl) (by kernel_rfl) (by kernel_rfl) (fun _ _ _ h=>h) (Or.inl ⟨by rfl,fun W ff=>by obtain⟨⟨s0,s1,s2⟩,s3,s4,s5⟩:=ff;go_simp;rw[Cr];omega⟩) ak ?_;refine mP 15 45 (.pointer (some ⟨g.fh,b+1,none⟩)) rfl rfl (by kernel_rfl) (by kernel_rfl) (by kernel_rfl) (fun _ _ _ h=>h) (Or.inl ⟨by rfl,fun W ff=>by obtain⟨⟨s0,s1,s2⟩,s3,s4,s5⟩:=ff;go_simp;intro hx;exact absurd (hx (by omega)) (by omega)⟩) ak ?_;refine aj 16 46 (.slice (some ⟨g.FB,(b+1)*g.L,none⟩) g.L g.L) ak ?_;simp only[Act.put,Aa,Ad,Ac];refine At (by kernel_rfl) ?_ _;unfold eo;refine af_ (.tmp 38) (.tmp 46) 173 173 rfl 207 underlying173 (by kernel_rfl) g.WB (r*g.L) g.L g.L g.L g.FB ((b+1)*g.L) rfl rfl wr 207 O2.o.bw (ll wf ((b+1)*g.L) g.L) ?l1 ?l2 ?l3 ?_
 case l1=>exact Kt (wO O2.o.fl.1 vZ)
 case l2=>
  intro k hk;have hf:=wO (g:=g) O2.o.fl.1 vZ;have:=O2.o.bf.cell ((b+1)*g.L+k);rw[zZ (by omega)]at this;rw[SH hk];exact this
 case l3=>exact wO O2.o.wl.1 tt
 intro w3 GL bm;have J9:aa (fun i=>i=g.WB) w2 w3:=(aa.refl (fun i=>i=g.WB) w2).drew.trans bm;have qe:=wO (g:=g) O2.o.wl.1 tt;have uv:=wO (g:=g) O2.o.fl.1 vZ;have gX:(ll wf ((b+1)*g.L) g.L).length=g.L:=Kt uv;have O3:Hid (iB w3 g b wf (splice wr (r*g.L) (ll wf ((b+1)*g.L) g.L))):=O2.o.Yk HG.o J9 GL ⟨by rw[Dh _ _ _ (by rw[gX];exact qe)];exact O2.o.wl.1,O2.o.wl.2.splice (O2.o.fl.2.ll _ _) _⟩
 have R3:Hid (AQ g (splice wr (r*g.L) (ll wf ((b+1)*g.L) g.L)) r i1):=fun u hu=>by
  have kI:u/64<g.L:=by have:=HG.o.I6;omega
  rw[Qo (by rw[gX];exact qe) (by rw[gX];exact kI),UH kI];exact HF.o u hu
 have B3:=ab (B2.o.kept J9 (by omega));have Tp:=ab (B4.o.kept J9 (by omega));have K3:Hid (aa (fun i=>i=g.ob\/i=g.WB) w w3):=(K2.o.mono (fun i h=>Or.inl h)).trans (J9.mono (fun i h=>Or.inr h));have ri:w.heap.size+1+1<=w3.heap.size:=by have:=J9.size;omega
 generalize splice wr (r*g.L) (ll wf ((b+1)*g.L) g.L)=wr1 at*
 clear GL bm J9 O2 B2 B4 K2 AM ak HF qe uv gX gg;refine jE ?_;simp only[Ak,Ag,Ah,Act.put,Aa,Ad,Ac];go_wp2_with fail;have PS5:Hid (∀W,aa ai w3 W->aai g.ob w.heap.size (w.heap.size+1) (bd g.x.s i0) g.x.s W):=fun W k=>⟨(B3.o.kept k (fun h=>h)).cell 0,(O3.o.kept k).rk.o.cell 3,(Tp.o.kept k (fun h=>h)).cell 0⟩
 have ak:=PS5.o w3.drew (aa.refl ai w3).drew;have aqQ:=fZ g.x.s HB.o.le;refine j_ (gD (S:=aai g.ob w.heap.size (w.heap.size+1) (bd g.x.s i0) g.x.s) 8 (by kernel_rfl) rfl rfl rfl (by kernel_rfl) (by kernel_rfl) ?_);refine aj 0 48 (BT g.ob 0) ak ?_;refine aj 1 49 (BT g.ob 0) ak ?_;refine aj 2 50 (BT g.ob 3) ak ?_;refine aj 3 51 (BT g.ob 3) ak ?_;refine aj 4 52 (.string g.x.s) ak ?_;refine aj 5 53 (GW (bd g.x.s i0:Int)) ak ?_;refine aj 6 54 (GW (bd g.x.s i1:Int)) ak ?_;refine aj 7 55 (.string (g.x.s.extract (bd g.x.s i0) (bd g.x.s i1))) ak ?_;simp only[Act.put,Aa,Ad,Ac];refine At (by kernel_rfl) ?_ _;unfold eo;simp only[Ak,Ag,Ah];go_simp;refine jE ?_;obtain⟨ii,cW,dm,du,de⟩:=Bo Tryz.Ig
 have dD:Hid (AN w3 (w3.drew.iter (g.x.s.extract (bd g.x.s i0) (bd g.x.s i1)) 0) g.x.s (g.x.s.extract (bd g.x.s i0) (bd g.x.s i1)) i0 i1 (.slice none 0 0) 0 (ig g.x.s i0 0)):=by
  refine⟨HB.o.le,A8 _ _ _ _,?_,(aa.refl ai w3).drew.alloc _,by simp[World.iter]⟩;have:=World.iter_heap w3.drew (g.x.s.extract (bd g.x.s i0) (bd g.x.s i1)) 0;have e:ig g.x.s i0 0=0:=by unfold ig;simp
  rw[e];exact this
 have PN:=ab fun d (h:i0+d<i1)=>ane (s:=g.x.s) h HB.o.in_
 have PE:=ab fun d (h:i0+d=i1)=>anc (s:=g.x.s) h
 generalize hP:g.x.s.extract (bd g.x.s i0) (bd g.x.s i1)=PP at*
 clear hP PS5 ak;generalize J3:w3.drew.iter PP 0=w4 at*;clear J3;go_wp2_with fail;have oE:=HB.o.in_;have RF:=OD g.x.s;go_loopg [6] (i1-i0) (fun kk v wq=>∃d:Nat,Hid (AN w3 wq g.x.s PP i0 i1 v d (ig g.x.s i0 d))/\kk=i1-i0-d)
 case atStart=>exact⟨0,dD,rfl⟩
 case round=>
  obtain⟨d,tW,eE⟩:=hrel;clear dD;have hd:=tW.o.le;by_cases az:i0+d<i1
  ·obtain⟨pn1,pn2⟩:=PN.o d az;have hn:=(fun ty=>Lib.run_next_any_at (P:=prog) wr w3.heap.size PP (ig g.x.s i0 d) ty tW.o.iter pn1);rw[pn2]at hn;have yz:=ab (tW.o.DN (ig g.x.s i0 (d+1)));obtain⟨w5,NI⟩:∃w5,w5=wr.iterAt w3.heap.size PP (ig g.x.s i0 (d+1)):=⟨_,rfl⟩
   rw[<-NI]at hn yz;clear NI tW pn1 pn2;generalize((Utf8.decode PP (ig g.x.s i0 d)).1:Int)=cc at hn;obtain⟨ao,c,rfl⟩:=cw yz.o.row;have PU:=(ab fun(W w7:World) (v':Value)=>yz.o.Ow (W:=W) (w7:=w7) (v':=v') az);have ik:=ab yz.o.row;have rJ:=ab yz.o.size;go_wp2_with (at_builtin;refine Ao _ rfl _ _ 22 rfl (w3.heap.size+1) 3 ii _ 1 8 underlying22 cW dm du de rfl (by decide) _ _ _ rfl (ik.o.alloc _) (GB w5.heap.size 0) 1 1 [GW (ig g.x.s i0 d:Int)] rfl rfl ?c1 ?c2 ?c3 ?c4 ?c5 ?_)
   case c1=>exact Is _ _
   case c2=>exact wv _
   case c3=>unfold maxLen;omega
   case c4=>omega
   case c5=>have:=rJ.o;simp;omega
   intro v' w7 bL cy eF cI;obtain⟨jl,c',rfl⟩:=cw bL;have aA:=ab (PU.o _ _ _ ((aa.refl ai w5).alloc _) bL cy);clear bL cy eF cI;go_wp2_with fail;go_roundg (i1-i0-(d+1))
   case measure=>omega
   case rel=>exact⟨d+1,aA,rfl⟩
  ·have MZ:i0+d=i1:=(by omega);have hn:=(fun ty=>Lib.run_next_end_at (P:=prog) wr w3.heap.size PP (ig g.x.s i0 d) ty tW.o.iter (PE.o d MZ));obtain⟨ao,c,rfl⟩:=cw tW.o.row;have JZ:(bd g.x.s i1:Int)-(bd g.x.s i0:Int)=(r:Int):=by have:=kQ.o;omega
   have c4:wr.cell? ⟨w.heap.size+1,0,none⟩=some (GW (bd g.x.s i0:Int)):=(Tp.o.kept tW.o.kept (fun h=>h)).cell 0;have EE:=ab MZ;clear MZ eE hd az;go_wp2_with fail;refine(agN _ ao d c).mono ?_;rintro e w6 ⟨rfl,J4⟩
   obtain⟨pb,aq3,akc,ha,mC⟩:∃pb,w3.heap.size<=pb/\pb<wr.heap.size/\(0<d->ao=some (GB pb 0))/\∀e,e<d->wr.cell? (GB pb e)=some (GW (ig g.x.s i0 e:Int)):=by
    by_cases h0:0<d
    ·obtain⟨gb,c',hv,l1,l2,l3,l4,l5⟩:=mO tW.o.row h0;have H7:ao=some (GB gb 0):=(by injection hv);refine⟨gb,by omega,l2,fun _=>H7,fun e he=>?_⟩;rw[l4 e he];unfold Ko;simp[he]
    ·exact⟨w3.heap.size,Ab _,tW.o.size,fun h=>absurd h h0,fun e he=>by omega⟩
   have arf:=tW.o.size;have k36:aa ai w3 w6:=by rw[J4];exact(tW.o.kept.alloc _).alloc _
   have ako:w6.heap.size=wr.heap.size+1+1:=by rw[J4];simp
   have bB8:au w6 wr.heap.size #[GW (r:Int)] 3:=by rw[J4];exact(au.new wr _ _).alloc _
   have cBs:w6.cell? ⟨wr.heap.size+1,0,none⟩=some (.slice ao d c):=by
    rw[J4];have:=(au.new (wr.alloc (.cells #[GW (r:Int)] 3)) #[.slice ao d c] 22).cell 0;rw[fP]at this;exact this
   have JG:∀e,e<d->w6.cell? (GB pb e)=some (GW (ig g.x.s i0 e:Int)):=fun e he=>by
    have k:aa ai wr w6:=by rw[J4];exact((aa.refl ai wr).alloc _).alloc _
    exact(k.cell (p:=(GB pb e)) akc (fun h=>h)).trans (mC e he)
   have acL:(wr.alloc (.cells #[GW (r:Int)] 3)).heap.size=wr.heap.size+1:=fP _ _;rw[acL];have hdn:d<=10000000:=by have:=EE.o;omega
   have BI:Hid (I7 g w3 wr.heap.size b i0 d [] w6):=by
    have O6:=O3.o.kept k36;refine⟨k36.mono (fun _ h=>h.elim),r,wr1,bB8,tt,O6.bw,O6.wl,fun k hk he=>?_⟩;have hkd:k=d:=by have:=congrArg List.length he;rw[abb]at this;simp at this;omega
    subst hkd;have MZ:=EE.o;refine⟨by have:=kQ.o;unfold ig;rw[MZ];omega,fun j r_ lY u hu=>?_⟩;rw[HB.o.e1]at lY;have hj:j=i1:=(by omega);subst hj;have e2:bd g.x.s j-g.from b=r:=by unfold OG.from;rw[HB.o.e0];have:=kQ.o;omega
    rw[e2];exact R3.o u hu
   have K6:Hid (aa (fun i=>i=g.ob\/i=g.WB) w w3):=K3;have aqm:g.WB<w3.heap.size:=(by omega);clear J4 mC acL bB8 hn tW c4 JZ;go_wp2_with fail;refine(wpIn_wide (n:=n)).1 ?_
   refine wpIn_rangeFunc_ownH rfl h1 (gf:=142) (lb:=#[.pointer (some ⟨wr.heap.size+1,0,none⟩)]) rfl trivial (enters_of func142 (by kernel_rfl) rfl)
    (agO (n-1) (by omega) (wr.heap.size+1) pb d c (ig g.x.s i0) ao ha (by omega) w6 (by omega) (by omega) cBs JG) jW.trans (jW.putObj (by omega) (by omega)) (Fv _ _) (fun _=>rfl)
    (I7 g w3 wr.heap.size b i0 d)
    (fun _ _ _=>False)
    (I7.ay g w3 wr.heap.size b i0 d _ (by omega))
    (fun _ _ _ _ _ hs _ _=>hs)
    BI.o
    (fun x a' W=>ago w.heap.size wr.heap.size (ig g.x.s i0) x a')
    (fun x a' _ X Y row hs hg hr=>hs)
    ?assign ?body ?done ?stop
   case assign=>
    rintro l pre x W K hI hK;simp only[Qk];gi_wp2;exact hK _ _ ((KeepsOthers.refl _).from _) (jW.refl _ _ _) hI ⟨_,_,_,_,_,_,_,_,_,_,_,_,_,_,_,_,_,_,_,_,_,_,_,_,_,_,_,_,_,_,_,_,_,_,_,_,_,_,_,_,_,_,_,_,_,_,_,_,_,_,_,_,_,_,_,_,_,_,_,_,_,_,_,_,_,_,_,_,_,_,_,_,_,_,_,_,_,_,_,_,_,_,_,_,_,_,_,rfl⟩
   case body=>
    rintro l pre x a' W hl ⟨rr,hr⟩ ⟨kW,bh,wq,Q6,CD,pA,rl,RC⟩ ⟨z0,z1,z3,z5,z6,z7,z9,z11,z12,z13,z14,z15,z16,z17,z18,z19,z20,z21,z22,z23,z24,z25,z26,z27,z28,z29,z30,z31,z32,z33,z34,z35,z36,z37,z38,z39,z40,z41,z42,z43,z44,z45,z46,z47,z48,z49,z50,z51,z52,z53,z54,z55,z56,z57,z58,z59,z60,z61,z62,z63,z64,z65,z66,z67,z68,z69,z70,z71,z72,z73,z74,z75,z76,z77,z78,z79,z80,z81,z82,z83,z84,z85,z86,z87,z88,z89,z90,rfl⟩ az;have OW:=ab (O3.o.Yk HG.o kW pA rl);have hx:=x.2;have dU:=HB.o.row HG.o (j:=i0+x.1) (by omega) (by have:=EE.o;omega);have JV:ig g.x.s i0 x.1=bd g.x.s (i0+x.1)-bd g.x.s i0:=rfl;have HPX:Hid (bd g.x.s (i0+x.1)=bd g.x.s i0+ig g.x.s i0 x.1):=by show _=_;omega
    have iY:ig g.x.s i0 x.1<g.nr:=(by omega);clear dU JV;generalize He:ig g.x.s i0 x.1=px at*;have Po:=ab He;clear He;have B3W:=ab (B3.o.kept kW (by omega));have B4W:=ab (Tp.o.kept kW (by omega));have EA:=ab Q6
    have PV:Hid (∀W',aa ai W W'->aag g.ob w.heap.size g.rh g.nr g.cr g.WB g.L px bh wr.heap.size (bd g.x.s i0) W'):=fun W' k=>by
     have O7:=OW.o.kept k;exact⟨⟨(B3W.o.kept k (fun h=>h)).cell 0,O7.rk.o.cell 11⟩,O7.rh px iY,O7.rh bh CD,(EA.o.kept k (fun h=>h)).cell 0,(B4W.o.kept k (fun h=>h)).cell 0⟩
    have ak:=PV.o W.drew (aa.refl ai W).drew;gi_wp2;refine ap9 (ap_ (S:=aag g.ob w.heap.size g.rh g.nr g.cr g.WB g.L px bh wr.heap.size (bd g.x.s i0)) 18 (by kernel_rfl) (akV _) (by kernel_rfl) rfl rfl rfl (by kernel_rfl) (by kernel_rfl) ?_);refine aj 0 71 (BT g.ob 0) ak ?_;refine aj 1 72 (BT g.ob 0) ak ?_;refine aj 2 73 (BT g.ob 0) ak ?_;refine aj 3 74 (BT g.ob 11) ak ?_;refine aj 4 75 (.slice (some (GB g.rh 0)) g.nr g.cr) ak ?_;refine aj 5 76 (GW (px:Int)) ak ?_;refine aj 6 77 (BT g.rh px) ak ?_;refine aj 7 78 (.slice (some ⟨g.WB,px*g.L,none⟩) g.L g.L) ak ?_;refine aj 8 79 (BT g.ob 0) ak ?_;refine aj 9 80 (BT g.ob 0) ak ?_;refine aj 10 81 (BT g.ob 11) ak ?_;refine aj 11 82 (.slice (some (GB g.rh 0)) g.nr g.cr) ak ?_;refine aj 12 83 (GW (bh:Int)) ak ?_;refine aj 13 84 (BT g.rh bh) ak ?_;refine aj 14 85 (.slice (some ⟨g.WB,bh*g.L,none⟩) g.L g.L) ak ?_;refine aj 15 86 (GW (bd g.x.s i0:Int)) ak ?_;refine aj 16 87 (GW (px:Int)) ak ?_;refine mP 17 88 (GW (bd g.x.s (i0+x.1):Int)) rfl rfl (by kernel_rfl) (by kernel_rfl) (by kernel_rfl) (fun _ _ _ h=>h) (Or.inl ⟨by rfl,fun W ff=>by obtain⟨⟨s0,s1⟩,s2,s3,s4,s5⟩:=ff;go_simp;rw[Cr];have:=HPX.o;have:=i_ g.x.s (i0+x.1);omega⟩) ak ?_;simp only[Act.put,Aa,Ad,Ac];refine At (by kernel_rfl) ?_ _;unfold eo;simp only[Ak,Ag,Ah];go_simp
    have Hz:=aeO (c1:=g.L) (c2:=g.L) (i:=i0+x.1) (H:=pre.map (·.1)=rQ (x.1+1) d) (OW.o.rk.kept ((aa.refl ai W).drew) (fun h=>h) (fun h=>h) (fun _ _ _ h=>h) (fun h=>h) (fun h=>h)) HG.o.fJ HG.o.q HG.o.bN (by omega) (show i0+x.1<=(aJ g.x.s).length by have:=EE.o;have:=HB.o.in_;omega) (CX.ame (by have:=EE.o;have:=HB.o.in_;have:=x.2;omega)) HG.o.I6
     (show au W.drew g.WB (dr wq).toArray 207 from pA) (wO rl.1 iY) HG.o.L6 (al8 HG.o HB.o EE.o hx Po.o iY CD rl.1 rl.2 (fun h=>RC (x.1+1) hx h))
    refine Hz.mono ?_;rintro e w7 ⟨rfl,iP,aO,fC,bl,y8,vX⟩;dsimp only;refine jE ?_;have k7:aa (fun i=>i=g.WB) W w7:=(aa.refl (fun i=>i=g.WB) W).drew.trans iP;have hWs:=kW.size;have Qi:au w7 wr.heap.size #[GW (bh:Int)] 3:=Q6.kept k7 (by omega);have c87:w7.cell? (GB wr.heap.size 0)=some (GW (bh:Int)):=Qi.cell 0;have f87:=Qi.frozen 0;have hW8:wr.heap.size<W.heap.size:=Q6.lt;have kS:aa (fun i=>i=g.WB\/i=wr.heap.size) W (w7.setCell (GB wr.heap.size 0) (GW (px:Int))):=aa.setCell (S:=fun i=>i=g.WB\/i=wr.heap.size) (k7.mono (fun i h=>Or.inl h)) (p:=(GB wr.heap.size 0)) (Or.inl (Or.inr rfl)) _
    have aA:Hid (KeepsFrom w6.heap.size W (w7.setCell (GB wr.heap.size 0) (GW (px:Int)))/\jW (wr.heap.size+1) pb W (w7.setCell (GB wr.heap.size 0) (GW (px:Int)))/\I7 g w3 wr.heap.size b i0 d (pre++[x]) (w7.setCell (GB wr.heap.size 0) (GW (px:Int)))):=by
     have JW:=k7.size;refine⟨⟨by have:=kS.size;exact this,fun k o hB hk ho=>(kS.block k ((Am.1 hk).1) (by omega)).trans hk⟩,⟨kS.block _ (by have:=(Am.1 hr).1;omega) (by omega),kS.block _ (by omega) (by omega)⟩,(kW.trans k7).setCell (p:=(GB wr.heap.size 0)) (Or.inr (by show w3.heap.size<=wr.heap.size;omega)) _,px,splice wq (px*g.L) aO,?_,iY,?_,⟨by rw[Dh _ _ _ (by rw[fC];exact wO rl.1 iY)];exact rl.1,rl.2.splice bl _⟩,fun k hk he=>?_⟩
     ·have:=Qi.setCell 0 (GW (px:Int));simpa using this
     ·exact y8.kept ((aa.refl (fun i=>i=wr.heap.size) w7).setCell (p:=(GB wr.heap.size 0)) (Or.inl rfl) _) (by omega)
     ·rw[Ca]at he;obtain⟨aU,Xa,oG⟩:=aib hk he;have Xa:x.1=k:=Xa;rw[Xa]at vX Po;obtain⟨h2,h3⟩:=RC (k+1) aU oG;exact⟨Po.o.symm,aod HG.o HB.o EE.o aU Po.o iY rl.1 fC h3 (vX oG)⟩
    clear vX y8 bl fC k7 kS Qi iP;gi_wp2;exact aA.o
   case done=>
    rintro D ys W hD hys ⟨kW,bh,wq,Q6,CD,pA,rl,RC⟩ hK;gi_wp2;refine⟨by simp,.inl ⟨_,_,rfl,run_takeDeferred hK,?_⟩⟩;have JX:=kW.size;have kP:aa (fun i=>i=g.WB) w3 (W.putObj D (.deferred none)):=kW.putObj (by omega) _;have hbP:au (W.putObj D (.deferred none)) g.WB (dr wq).toArray 207:=(Di (by omega)).trans pA;refine⟨_,Dk rfl _ _ _,rfl,wq,O3.o.Yk HG.o kP hbP rl,?_,K3.o.trans (kP.mono (fun i h=>Or.inr h))⟩;have:=(RC 0 (Al _) hys).2;simpa using this
   case stop=>
    rintro D c pre W _ _ h _;exact h.elim
theorem adm(hg:g.Ok)(hO:iB w g aq wf wr)(hb:b+1<g.aH.length)(hF:AQ g wf (b+1) (g.aH.getD (b+1) 0)):
 Calls prog 89 #[BT g.ob 0,GW (b:Int)] w fun e w'=>e=.returned (.tuple #[])/\∃yo,iB w' g b wf yo/\vy g yo b (g.aH.getD b 0)/\aa (fun i=>i=g.ob\/i=g.WB) w w':=
 Gd.1 (alm 6 (by omega) hg hO (yq.of hg hb) hF)
structure pd(w:World)(g:OG)(aq:Nat)(wf wr:List Nat):Prop where
 at_:iB w g aq wf wr
 lt:aq+1<g.aH.length
 Mu:∀k,k<g.aH.length->AQ g wf k (g.aH.getD k 0)
 rows:vy g wr aq (g.aH.getD aq 0)
theorem pd.kept{w':World}(h:pd w g aq wf wr)(k:aa ai w w'):pd w' g aq wf wr:=⟨h.at_.kept k,h.lt,h.Mu,h.rows⟩
theorem UG(hi:i<=(aJ s).length)(hj:j<=(aJ s).length):bd s i<bd s j↔i<j:=by
 constructor
 ·intro h;refine Nat.lt_of_not_le fun hle=>?_
  have:=fZ s hle;omega
 ·intro h;exact AX h (by omega)
theorem ab7(hg:g.Ok)(h:iB w g aq wf wr)(hr:r<g.nr)(hu:u<g.ms.length)(m:Nat):
 Calls prog 90 #[.slice (some ⟨g.WB,r*g.L,none⟩) g.L g.L,GW (u:Int)] (w.drewN m) fun e w'=>e=.returned (.bool (gz wr (r*g.L) u))/\w'=w.drewN m:=by
 have hf:=wO (g:=g) h.wl.1 hr;have kI:u/64<g.L:=by have:=hg.I6;omega
 have hc:(w.drewN m).cell? ⟨g.WB,r*g.L+u/64,none⟩=some (.int .u64 (wr.getD (r*g.L+u/64) 0:Nat)):=by
  have:=h.bw.cell (r*g.L+u/64);rw[zZ (by omega)]at this;exact this
 have dy:=hg.bN;exact VV (w.drewN m) g.WB (r*g.L) g.L g.L _ u (h.wl.2.getD _) kI (by omega) hc
theorem US{wd:List Nat}(hg:g.Ok)(hO:pd w g aq wf wd)(hu:u<g.ms.length)(hi:i<=(aJ g.x.s).length)(oC:g.aH.getD aq 0<=i):
 Calls prog 61 #[BT g.ob 0,GW (u:Int),GW (bd g.x.s i:Int)] w fun e w'=>e=.returned (.bool (dV g.ms g.x u i))/\∃L9 qy,pd w' g L9 wf qy/\g.aH.getD L9 0<=i/\aa (fun i=>i=g.ob\/i=g.WB) w w':=by
 have V3:=hO.lt;have dy:=hg.bg.bN;have aW:=hg.size;have Q8:=i_ g.x.s i;have Md:w.cell? (GB g.ob 10)=some (GW (aq:Int)):=hO.at_.rk.o.cell 10;have c8:w.cell? (GB g.ob 8)=some (.slice (some (GB g.cR 0)) g.aH.length g.cb):=hO.at_.rk.o.cell 8;have HG:=ab hg;have HO:=ab hO;have EB:=ab oC;clear hg hO oC;go_in;go_wp2_with fail;go_loopg [7] (g.aH.length-aq) (fun kk v wq=>∃k:Nat,v=GW (k:Int)/\k+1<g.aH.length/\aq<=k/\kk=g.aH.length-k/\Hid (g.aH.getD k 0<=i)/\wq=w)
 case atStart=>exact⟨aq,rfl,V3,Ab _,rfl,EB,rfl⟩
 case round=>
  obtain⟨k,rfl,aU,aS,eE,HK,hww⟩:=hrel;have akt:w=wr:=hww.symm;subst akt;clear hww;have AH:=ab (HG.o.bg.in_ (k+1));have cb:w.cell? ⟨g.cR,k+1,none⟩=some (GW (bd g.x.s (g.aH.getD (k+1) 0):Int)):=HO.o.at_.bg (k+1) aU;have vY:=i_ g.x.s (g.aH.getD (k+1) 0);obtain⟨b1,gF⟩:∃b1,Hid (bd g.x.s (g.aH.getD (k+1) 0)=b1):=⟨_,(rfl:_=_)⟩
  rw[gF.o]at cb vY;by_cases rZ:b1<bd g.x.s i
  ·have bm:k+1+1<g.aH.length:=by
    have xJ:g.aH.getD (k+1) 0<i:=(UG AH.o hi).1 (by rw[gF.o];exact rZ);refine Nat.lt_of_not_le fun hle=>?_
    have e:k+1=g.aH.length-1:=(by omega);have:=HG.o.bg.eQ;rw[<-e]at this;omega
   have HKI:Hid (g.aH.getD (k+1) 0<=i):=by
    have xJ:g.aH.getD (k+1) 0<i:=(UG AH.o hi).1 (by rw[gF.o];exact rZ);show _<=_
    omega
   have ajD:(b1:Int)<(bd g.x.s i:Int):=(by omega);go_wp2_with fail;go_roundg (g.aH.length-(k+1))
   case measure=>omega
   case rel=>exact⟨k+1,by simp,bm,by omega,rfl,HKI,rfl⟩
  ·have ZP:Hid (i<=g.aH.getD (k+1) 0):=(Fo fun h=>rZ (by rw[<-gF.o];exact(UG AH.o hi).2 h));have HRW:=ab ((yq.of HG.o aU).row HG.o HK.o ZP.o);have ajn:=i_ g.x.s (g.aH.getD k 0);have cb0:w.cell? (GB g.cR k)=some (GW (bd g.x.s (g.aH.getD k 0):Int)):=HO.o.at_.bg k (by omega);obtain⟨b0,yu⟩:∃b0,Hid (bd g.x.s (g.aH.getD k 0)=b0):=⟨_,(rfl:_=_)⟩
   rw[yu.o]at cb0 ajn;obtain⟨r,HR⟩:∃r,Hid (bd g.x.s i=b0+r):=⟨bd g.x.s i-b0,by show _=_;have:=HRW.o;have:=yu.o;omega⟩
   have tt:r<g.nr:=by have:=HRW.o;have:=HR.o;have:=yu.o;omega
   have JZ:(bd g.x.s i:Int)-(b0:Int)=(r:Int):=by have:=HR.o;omega
   have aA:Hid (∀(w':World) (qy:List Nat),pd w' g k wf qy->gz qy (r*g.L) u=dV g.ms g.x u i):=fun w' qy h=>by
    have:=h.rows i HK.o ZP.o u hu;have e:bd g.x.s i-g.from k=r:=by unfold OG.from;have:=HR.o;have:=yu.o;omega
    rw[e]at this;exact this
   have ajD:¬(b1:Int)<(bd g.x.s i:Int):=(by omega);by_cases ek:k=aq
   ·subst ek;have c11:w.cell? (GB g.ob 11)=some (.slice (some (GB g.rh 0)) g.nr g.cr):=HO.o.at_.rk.o.cell 11;have crh:w.cell? (GB g.rh r)=some (.slice (some ⟨g.WB,r*g.L,none⟩) g.L g.L):=HO.o.at_.rh r tt;have IT:=(ab fun m=>ab7 HG.o HO.o.at_ tt hu m);go_wp2_with fail;go_big_quiet (first|(go_at_call 90;refine As (IT.o _)));go_wp2_with fail;go_ret;have e:=aA.o _ _ HO.o;rw[e];exact⟨rfl,k,wd,HO.o.kept ((aa.refl ai w).drewN nq),HK.o,(aa.refl _ w).drewN nq⟩
   ·have ek2:((k:Int) != (aq:Int))=true:=by simp;omega
    have F:=ab (adm HG.o HO.o.at_ aU (HO.o.Mu (k+1) aU));go_wp2_with fail;refine(F.o).mono ?_;rintro e w2 ⟨rfl,wd2,h2,h3,k2⟩;have O2:Hid (pd w2 g k wf wd2):=⟨h2,aU,HO.o.Mu,h3⟩;have c11:w2.cell? (GB g.ob 11)=some (.slice (some (GB g.rh 0)) g.nr g.cr):=h2.rk.o.cell 11;have c82:w2.cell? (GB g.ob 8)=some (.slice (some (GB g.cR 0)) g.aH.length g.cb):=h2.rk.o.cell 8;have cb2:w2.cell? (GB g.cR k)=some (GW (b0:Int)):=by rw[<-yu.o];exact h2.bg k (by omega)
    have crh:w2.cell? (GB g.rh r)=some (.slice (some ⟨g.WB,r*g.L,none⟩) g.L g.L):=h2.rh r tt;have IT:=(ab fun m=>ab7 HG.o h2 tt hu m);have K2:=ab k2;clear h2 h3 k2 F cb cb0 c8 Md;go_wp2_with fail;go_big_quiet (first|(go_at_call 90;refine As (IT.o _)));go_wp2_with fail;go_ret;have e:=aA.o _ _ O2.o;rw[e];exact⟨rfl,k,wd2,O2.o.kept ((aa.refl ai w2).drewN nq),HK.o,K2.o.drewN nq⟩
theorem aoV(ho:o+aO.length<=ws.length)(hk:k<aO.length):(splice ws o aO).set (o+k) x=splice ws o (aO.set k x):=by
 unfold splice;rw[Em _ _ (by simp;omega),List.set_append_left _ _ (by simp;omega)];simp only[Cv,Bp];rw[show o+k-min o ws.length=k by omega]
theorem agR(h:∀j,j<L->aO.getD j 0=18446744073709551615)(hu:u/64<L):gz aO 0 u=true:=by
 unfold gz;rw[Ba,h _ hu,show(18446744073709551615:Nat)=2^64-1 by decide,Nat.testBit_two_pow_sub_one];simp;omega
def LP(w wr:World)(B o L:Nat)(ws:List Nat)(k:Nat):Prop:=∃aO:List Nat,aO.length=L/\gu aO/\au wr B (dr (splice ws o aO)).toArray 207/\aa (fun i=>i=B) w wr/\∀j,j<k->aO.getD j 0=18446744073709551615
theorem LP.put{wr:World}(h:LP w wr B o L ws k)(ho:o+L<=ws.length)(hk:k<L):LP w (wr.setCell ⟨B,o+k,none⟩ (.int .u64 18446744073709551615)) B o L ws (k+1):=by
 obtain⟨aO,h1,h2,h3,h4,h5⟩:=h;refine⟨aO.set k 18446744073709551615,by simpa using h1,fun x hx=>?_,?_,h4.setCell (p:=⟨B,o+k,none⟩) (Or.inl rfl) _,fun j hj=>?_⟩
 ·rcases Dw hx with h|h
  ·exact h2 x h
  ·omega
 ·have:=h3.setCell (o+k) (.int .u64 ((18446744073709551615:Nat):Int));rw[afR,aoV (by omega) (by omega)]at this;exact this
 ·rw[My _ _ _ _ _ (by omega)];split
  ·rfl
  ·exact h5 j (by omega)
theorem anJ{c:Nat}(h:au w B (dr ws).toArray 207)(hw:gu ws)(ho:o+L<=ws.length)(hL:L<100000):
 Calls prog 87 #[.slice (some (GB B o)) L c] w fun e w'=>e=.returned (.tuple #[])/\aa (fun i=>i=B) w w'/\∃aO,aO.length=L/\gu aO/\au w' B (dr (splice ws o aO)).toArray 207/\∀u,u/64<L->gz aO 0 u=true:=by
 have dD:Hid (LP w w B o L ws 0):=⟨ll ws o L,Kt ho,hw.ll _ _,by rw[aoU ho];exact h,aa.refl _ _,fun j hj=>by omega⟩;have HO:=ab ho;clear h hw ho;go_in;go_wp2_with fail;go_loopg [5] L (fun kk v wr=>∃k:Nat,v=GW (k:Int)/\k<=L/\kk=L-k/\Hid (LP w wr B o L ws k))
 case atStart=>exact⟨0,rfl,Al _,rfl,dD⟩
 case round=>
  obtain⟨k,rfl,hk,eE,HI⟩:=hrel;clear dD;by_cases az:k<L
  ·have jP:(k:Int)<(L:Int):=(by omega);obtain⟨aO,h1,h2,h3,h4,h5⟩:=HI.o;have c1:=h3.cell (o+k);rw[zZ (by rw[Dh _ _ _ (by rw[h1];exact HO.o)];have:=HO.o;omega)]at c1;have f1:=h3.frozen (o+k);generalize(((splice ws o aO).getD (o+k) 0:Nat):Int)=c0 at c1;clear h3;have aA:=ab (HI.o.put HO.o az);clear h1 h2 h4 h5 HI;go_wp2_with fail;go_roundg (L-(k+1))
   case measure=>omega
   case rel=>exact⟨k+1,by simp,by omega,rfl,aA⟩
  ·have jP:¬(k:Int)<(L:Int):=by omega
   have aA:Hid (aa (fun i=>i=B) w wr/\∃aO,aO.length=L/\gu aO/\au wr B (dr (splice ws o aO)).toArray 207/\∀u,u/64<L->gz aO 0 u=true):=by
    obtain⟨aO,h1,h2,h3,h4,h5⟩:=HI.o;exact⟨h4,aO,h1,h2,h3,fun u hu=>agR (L:=L) (fun j hj=>h5 j (by omega)) hu⟩
   clear HI;go_wp2_with fail;go_end0;exact⟨rfl,aA.o⟩
