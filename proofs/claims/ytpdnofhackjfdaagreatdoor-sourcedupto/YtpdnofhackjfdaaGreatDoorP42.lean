/- Package flow's s -/
import Derived.Test.YtpdnofhackjfdaaGreatDoorP41
set_option linter.all false
set_option maxRecDepth 100000
set_option maxHeartbeats 8000000
namespace Go.Proofs.YtpdnofhackjfdaaGreatDoor
open Go.Proofs.Tryz
open Go.RowKit Go.Maps
variable {mt:Bool} {K X:ByteArray} {c:FC} {g:FM} {s:cx} {A p q:Int} {l:List bJ} {a fb i:Nat} {fix ay:Nat->Prop} {w:World}
def ShS(fb b8:Nat)(kv v':Value)(bg:Int)(s:ByteArray)(W:World):Prop:=(W.cell? (GB fb 4)=some kv/\W.cell? (GB fb 5)=some (GW bg))/\(convert 42 9 v').run prog W=.ok (.string s) W
theorem afC{bh:Int}(hB:au w fb c.cells 124)(hK:jI w c.kv K)(hT:iM w)(h0:0<=c.aE)(h1:c.aE<=p)(Hy:p<=q)(h2:q-c.aE<=K.size)(h3:q<=1000000000000)(h4:K.size<=1000000000000):
 Calls prog 80 #[BT fb 0,GW p,GW q,.int .i32 bh] w fun e w'=>e=.returned (.agg #[.string (K.extract (p-c.aE).toNat (q-c.aE).toNat),GW p,.int .i32 (oj c K p),.int .i32 bh,.bool false])/\aa ai w w':=by
 obtain⟨v',gX,hb,_⟩:=afF hK (x:=p-c.aE) (y:=q-c.aE) (by omega) (by omega) h2;have oM:IntKind.i64.wrap (p-c.aE)=p-c.aE:=AA (by omega) (by omega);have ql:IntKind.i64.wrap (q-c.aE)=q-c.aE:=AA (by omega) (by omega);have F:=ab fun(W:World) (k:aa ai w W)=>UB (pl:=p) (hB.kept k (fun hx=>hx)) (hK.new k) (hT.iR k) h0 h1 (by omega) (by omega) h4
 generalize oj c K p=av at*
 have S1:Hid (∀W,aa ai w W->ShS fb w.heap.size c.kv v' c.aE (K.extract (p-c.aE).toNat (q-c.aE).toNat) W):=fun W k=>by
  have:=hB.kept k (fun hx=>hx);exact⟨⟨this.cell 4,this.cell 5⟩,aa1 (hb.new k)⟩
 generalize K.extract (p-c.aE).toNat (q-c.aE).toNat=s at*
 generalize c.kv=kv at*
 generalize c.aE=bg at*
 have B1:=au.new w #[.string ⟨#[]⟩,GW 0,.int .i32 0,.int .i32 0,.bool false] 105;have gF:=ab B1;have K1:Hid (aa ai w (w.alloc (.cells #[.string ⟨#[]⟩,GW 0,.int .i32 0,.int .i32 0,.bool false] 105))):=(aa.refl ai w).alloc _;clear hB hK hT hb B1;go_in;go_wp2_with fail;generalize(w.alloc (.cells #[.string ⟨#[]⟩,GW 0,.int .i32 0,.int .i32 0,.bool false] 105))=w1 at*;refine j_ (Cl (by kernel_rfl) (Ci (S:=ShS fb w.heap.size kv v' bg s) _ _ _ _ ?_));have ak:=S1.o w1.drew K1.o.drew;refine aj 0 9 (BT fb 0) ak ?_;refine aj 1 10 (BT fb 0) ak ?_;refine aj 2 11 (BT fb 4) ak ?_;refine aj 3 12 kv ak ?_;refine aj 4 13 (GW p) ak ?_;refine aj 5 14 (BT fb 0) ak ?_;refine aj 6 15 (BT fb 0) ak ?_;refine aj 7 16 (BT fb 5) ak ?_;refine aj 8 17 (GW bg) ak ?_;refine aj 9 18 (GW (p-bg)) ak ?_;refine aj 10 19 (GW q) ak ?_;refine aj 11 20 (BT fb 0) ak ?_;refine aj 12 21 (BT fb 0) ak ?_;refine aj 13 22 (BT fb 5) ak ?_;refine aj 14 23 (GW bg) ak ?_;refine aj 15 24 (GW (q-bg)) ak ?_;refine aj 16 25 v' ak ?_;refine aj 17 26 (.string s) ak ?_;refine aj 18 27 (GW p) ak ?_;refine aj 19 28 (BT fb 0) ak ?_;refine aj 20 29 (GW p) ak ?_;refine aj 22 31 (.int .i32 bh) ak ?_;simp only[Act.put,Aa,Ad,Ac];refine bR 21 fun K hK=>?_
 go_simp;refine(F.o _ K1.o.drew).mono ?_;rintro e w2 ⟨rfl,k2⟩;dsimp only;have oO:aa ai w w2:=K1.o.drew.trans k2;have kY:=S1.o w2 oO;refine hK.o _ _ kY (fun _=>?_);clear hK K;refine aj 23 32 (.agg #[.string s,GW p,.int .i32 av,.int .i32 bh,.bool false]) kY ?_;have B2:=gF.o.kept ((aa.refl ai w1).drew.trans k2) (fun hx=>hx);have c0:w2.cell? (GB w.heap.size 0)=some (.string ⟨#[]⟩):=B2.cell 0;have c1:w2.cell? (GB w.heap.size 1)=some (GW 0):=B2.cell 1;have c2:w2.cell? (GB w.heap.size 2)=some (.int .i32 0):=B2.cell 2;have c3:w2.cell? (GB w.heap.size 3)=some (.int .i32 0):=B2.cell 3;have c4:w2.cell? (GB w.heap.size 4)=some (.bool false):=B2.cell 4;have f0:w2.frozen? (GB w.heap.size 0)=false:=B2.frozen 0;have f1:w2.frozen? (GB w.heap.size 1)=false:=B2.frozen 1;have f2:w2.frozen? (GB w.heap.size 2)=false:=B2.frozen 2;have f3:w2.frozen? (GB w.heap.size 3)=false:=B2.frozen 3;have f4:w2.frozen? (GB w.heap.size 4)=false:=B2.frozen 4;simp only[Act.put,Aa,Ad,Ac];refine bR 24 fun K hK=>?_
 have K9:aa ai w (((((w2.setCell (GB w.heap.size 0) (.string s)).setCell (GB w.heap.size 1) (GW p)).setCell (GB w.heap.size 2) (.int .i32 av)).setCell (GB w.heap.size 3) (.int .i32 bh)).setCell (GB w.heap.size 4) (.bool false)):=((((oO.setCell (p:=(GB w.heap.size 0)) (Or.inr (Ab _)) _).setCell (p:=(GB w.heap.size 1)) (Or.inr (Ab _)) _).setCell (p:=(GB w.heap.size 2)) (Or.inr (Ab _)) _).setCell (p:=(GB w.heap.size 3)) (Or.inr (Ab _)) _).setCell (p:=(GB w.heap.size 4)) (Or.inr (Ab _)) _;have B9:au (((((w2.setCell (GB w.heap.size 0) (.string s)).setCell (GB w.heap.size 1) (GW p)).setCell (GB w.heap.size 2) (.int .i32 av)).setCell (GB w.heap.size 3) (.int .i32 bh)).setCell (GB w.heap.size 4) (.bool false)) w.heap.size #[.string s,GW p,.int .i32 av,.int .i32 bh,.bool false] 105:=((((B2.setCell 0 (.string s)).setCell 1 (GW p)).setCell 2 (.int .i32 av)).setCell 3 (.int .i32 bh)).setCell 4 (.bool false);have K9:=ab K9;have B9:=ab B9;go_simp;generalize(((((w2.setCell (GB w.heap.size 0) (.string s)).setCell (GB w.heap.size 1) (GW p)).setCell (GB w.heap.size 2) (.int .i32 av)).setCell (GB w.heap.size 3) (.int .i32 bh)).setCell (GB w.heap.size 4) (.bool false))=w9 at*;have MP:=S1.o w9 K9.o;refine hK.o _ _ MP (fun _=>?_);clear hK K c0 c1 c2 c3 c4 f0 f1 f2 f3 f4;refine At (by kernel_rfl) ?_ _;refine jE ?_;clear S1 ak kY MP F;have c0:w9.cell? (GB w.heap.size 0)=some (.string s):=B9.o.cell 0;have c1:w9.cell? (GB w.heap.size 1)=some (GW p):=B9.o.cell 1;have c2:w9.cell? (GB w.heap.size 2)=some (.int .i32 av):=B9.o.cell 2;have c3:w9.cell? (GB w.heap.size 3)=some (.int .i32 bh):=B9.o.cell 3;have c4:w9.cell? (GB w.heap.size 4)=some (.bool false):=B9.o.cell 4;go_simp;go_wp2_with fail;exact Bm (v:=.agg #[.string s,GW p,.int .i32 av,.int .i32 bh,.bool false]) (by simp[results,results80,go_sem,c0,c1,c2,c3,c4]) rfl ⟨rfl,K9.o⟩
def wG(c:FC)(K:ByteArray)(p q:Int)(op:Bool):CX:=⟨K.extract (p-c.aE).toNat (q-c.aE).toNat,p,oj c K p,-1,op⟩
def oQ(g:FM)(c:FC)(x:CX):List Ev×Nat×Int:=e_ (eV g.ms x g.u0 g.G) x.n x.aZ x.op 0 c.tl
structure FD(w:World)(fb:Nat)(g:FM)(c:FC)(K:ByteArray)(A:Int)(mt:Bool)(l:List bJ)(ay fix:Nat->Prop)(x:CX)(v:Value)(lx:List (Ev×Nat))(w':World):Prop where
 c_:mR w' w.heap.size v x (2*g.G) lx
 eq:lx.map (·.1)=(oQ g c x).1
 mem:fR w' fb g {c with fr:=x.fr (oQ g c x).2.1,tl:=(oQ g c x).2.2} K A mt l ay fix
 kept:aa (fun i=>i=fb) w w'
def Uf(fb b9:Nat)(g:FM)(s:ByteArray)(p av:Int)(op:Bool)(W:World):Prop:=(W.cell? (GB fb 0)=some (.slice (some (GB g.mb 0)) g.ms.length g.cc)/\W.cell? (GB fb 1)=some (GW (g.u0:Int))/\W.cell? (GB fb 2)=some (GW (g.G:Int)))/\W.cell? (GB b9 0)=some (.string s)/\W.cell? (GB b9 1)=some (GW p)/\W.cell? (GB b9 2)=some (.int .i32 av)/\W.cell? (GB b9 3)=some (.int .i32 (-1))/\W.cell? (GB b9 4)=some (.bool op)
theorem adn{op:Bool}(hg:g.Ok)(h:fR w fb g c K A mt l ay fix)(h0:0<=c.aE)(h1:c.aE<=p)(Hy:p<=q)(h2:q-c.aE<=K.size)(h3:q<=1000000000000)(h4:K.size<=10000000):
 Calls prog 51 #[BT fb 0,GW p,GW q,.bool op] w fun e w'=>∃v lx,e=.returned v/\FD w fb g c K A mt l ay fix (wG c K p q op) v lx w':=by
 have H:=ab h;have F1:=ab (afC (p:=p) (q:=q) (bh:= -1) h.aq (zN h.kp) h.ma.jS h0 h1 Hy h2 h3 (by omega));have aW:(K.extract (p-c.aE).toNat (q-c.aE).toNat).size<=10000000:=by rw[extract_size K _ _ (by omega)];omega
 obtain⟨x,hx⟩:∃x,x=wG c K p q op:=⟨_,rfl⟩
 have tB:x.s=K.extract (p-c.aE).toNat (q-c.aE).toNat:=by rw[hx];rfl
 have uJ:x.aE=p:=by rw[hx];rfl
 have DB:x.ah=oj c K p:=by rw[hx];rfl
 have zw:x.bh= -1:=by rw[hx];rfl
 have J5:x.op=op:=by rw[hx];rfl
 rw[<-hx];rw[<-tB]at aW;rw[<-tB,<-DB]at F1;have HX:=ab (And.intro tB (And.intro uJ (And.intro DB (And.intro zw J5))));have rJ:=ab aW;obtain⟨s,hs⟩:∃s,s=x.s:=⟨_,rfl⟩
 obtain⟨av,vV⟩:∃av,av=x.ah:=⟨_,rfl⟩
 rw[<-hs,<-vV]at F1;have HS:=ab (And.intro hs vV);clear h hx tB uJ DB zw J5 aW hs vV;go_in;go_wp2_with fail;refine(F1.o).mono ?_;rintro e w1 ⟨rfl,k1⟩;have H1:=ab (H.o.new k1);have K1:=ab k1;clear F1 k1 H;have B9:=au.new w1 #[.string s,GW p,.int .i32 av,.int .i32 (-1),.bool op] 105;have k2:aa ai w1 (w1.alloc (.cells #[.string s,GW p,.int .i32 av,.int .i32 (-1),.bool op] 105)):=(aa.refl ai w1).alloc _;have H2:=H1.o.new k2;have Md:(w1.alloc (.cells #[.string s,GW p,.int .i32 av,.int .i32 (-1),.bool op] 105)).cell? (GB fb 10)=some (GW c.fr):=H2.aq.cell 10;have f10:(w1.alloc (.cells #[.string s,GW p,.int .i32 av,.int .i32 (-1),.bool op] 105)).frozen? (GB fb 10)=false:=H2.aq.frozen 10;have aB:w1.heap.size≠fb:=by have:=H1.o.aq.lt;omega
 have K3:Hid (aa (fun i=>i=fb) w ((w1.alloc (.cells #[.string s,GW p,.int .i32 av,.int .i32 (-1),.bool op] 105)).setCell (GB fb 10) (GW p))):=((K1.o.trans k2).mono (S':=fun i=>i=fb) (fun i hx=>hx.elim)).setCell (p:=(GB fb 10)) (Or.inl rfl) _;have H3:Hid (fR ((w1.alloc (.cells #[.string s,GW p,.int .i32 av,.int .i32 (-1),.bool op] 105)).setCell (GB fb 10) (GW p)) fb g {c with fr:=p} K A mt l ay fix):=H2.put ((aa.refl (fun i=>i=fb) _).setCell (p:=(GB fb 10)) (Or.inl rfl) _) (H2.aq.setCell 10 (GW p)) ⟨rfl,rfl,rfl,rfl,rfl⟩;have B3:=ab (B9.qw (p:=(GB fb 10)) aB (GW p));clear H2 k2 B9 H1;go_wp2_with fail;generalize((w1.alloc (.cells #[.string s,GW p,.int .i32 av,.int .i32 (-1),.bool op] 105)).setCell (GB fb 10) (GW p))=w3 at*;clear Md f10
 have S1:Hid (∀W,aa ai w3 W->Uf fb w1.heap.size g s p av op W):=fun W k=>by
  have a:=H3.o.aq.kept k (fun hx=>hx);have b:=B3.o.kept k (fun hx=>hx);exact⟨⟨(a.cell 0).trans (by show some c.mv=_;rw[H3.o.mv];rfl),(a.cell 1).trans (by show some (GW c.st)=_;rw[H3.o.st]),(a.cell 2).trans (by show some (GW c.G)=_;rw[H3.o.G])⟩,b.cell 0,b.cell 1,b.cell 2,b.cell 3,b.cell 4⟩
 have F2:=Zd (w:=w3.drew) (cE:=fb) (co:=10) (cs:=({c with fr:=p}:FC).cells) (ty:=124) (x:=x) (i0:=0) (Kz:=c.tl) (T:=eV g.ms x g.u0 g.G) (R:=oQ g c x) (H3.o.ma.kept (aa.refl ai w3).drew) hg.fJ hg.q hg.bN rJ.o (by rw[HX.o.2.1];omega) hg.u0 hg.G (fun i _=>rfl) (wV hg.fJ x hg.u0 g.G)
  (by
    have e0:x.fr 0=p:=by rw[CX.Jq (Al _)];unfold CX.aZ;rw[sS,HX.o.2.1];simp
    rw[FC.xy,e0];exact H3.o.aq) (by show 10+1<17;decide) (Al _) rfl
  ⟨fun e=>(H3.o.nE fb (Or.inr (Or.inl (Or.inl e)))).1 rfl,fun e=>(H3.o.nE fb (Or.inr (Or.inl (Or.inr e)))).1 rfl,fun e=>(H3.o.nE fb (Or.inr (Or.inr (Or.inl e)))).1 rfl,fun e=>(H3.o.nE fb (Or.inr (Or.inr (Or.inr e)))).1 rfl⟩
 rw[HX.o.2.1,HX.o.2.2.2.1,HX.o.2.2.2.2,<-HS.o.1,<-HS.o.2]at F2;have F2:=ab F2;refine j_ (Cl (by kernel_rfl) (Ci (S:=Uf fb w1.heap.size g s p av op) _ _ _ _ ?_));have ak:=S1.o w3.drew (aa.refl _ _).drew;refine aj 0 21 (BT fb 0) ak ?_;refine aj 1 22 (BT fb 0) ak ?_;refine aj 2 23 (BT fb 0) ak ?_;refine aj 3 24 (.agg #[.slice (some (GB g.mb 0)) g.ms.length g.cc,GW (g.u0:Int),GW (g.G:Int)]) ak ?_;refine aj 4 25 (.agg #[.string s,GW p,.int .i32 av,.int .i32 (-1),.bool op]) ak ?_;refine aj 5 26 (BT fb 0) ak ?_;refine aj 6 27 (BT fb 0) ak ?_;refine aj 7 28 (BT fb 10) ak ?_;simp only[Act.put,Aa,Ad,Ac];refine bR 8 fun K hK=>?_
 go_simp;refine(F2.o).mono ?_;rintro e w4 ⟨v,lx,rfl,hE,hl,hB,k4⟩;dsimp only;have DE:aa (fun i=>i=fb) w3 w4:=((aa.refl _ w3).drew).trans k4;have H4:fR w4 fb g {c with fr:=x.fr (oQ g c x).2.1,tl:=(oQ g c x).2.2} _ A mt l ay fix:=H3.o.put DE hB ⟨rfl,rfl,rfl,rfl,rfl⟩;have b4:=B3.o.kept DE (fun e=>aB e);have cF:Uf fb w1.heap.size g s p av op w4:=⟨⟨(H4.aq.cell 0).trans (by show some c.mv=_;rw[H3.o.mv];rfl),(H4.aq.cell 1).trans (by show some (GW c.st)=_;rw[H3.o.st]),(H4.aq.cell 2).trans (by show some (GW c.G)=_;rw[H3.o.G])⟩,b4.cell 0,b4.cell 1,b4.cell 2,b4.cell 3,b4.cell 4⟩;have ri:=K3.o.size;have aA:=ab (show FD w fb g c _ A mt l ay fix x v lx w4 from⟨⟨ye hE.row ri,fun r hr=>⟨Bh ri (hE.fA r hr).1,(hE.fA r hr).2⟩⟩,hl,H4,K3.o.trans DE⟩);refine hK.o _ _ cF (fun _=>?_);clear hK K;refine aj 9 8 v cF ?_;simp only[Act.put,Aa,Ad,Ac];refine At (by kernel_rfl) ?_ _;refine jE ?_;clear F2 S1 ak cF hE hl hB k4 DE H4 b4;go_simp;go_wp2_with fail;go_ret;exact⟨v,lx,rfl,aA.o⟩
def FC.jo(c:FC):FC:={c with pl:=c.fr,ma:=0,mz:=0,md:=false}
def TE(fb:Nat)(T:TypeId)(xv:Value)(fr:Int)(W:World):Prop:=W.cell? (GB fb 3)=some (.iface T xv)/\W.cell? (GB fb 7)=some (GW fr)
theorem aiZ(h:fR w fb g c K A mt l ay fix)(h0:0<=c.aE)(h1:c.aE<=c.fr)(h2:c.fr-c.aE<=K.size)(h3:c.fr<=1000000000000)(h4:K.size<=1000000000000):
 Calls prog 78 #[BT fb 0] w fun e w'=>e=.returned (.tuple #[])/\∃cG,fR w' fb g c.jo K (oj c K c.fr) false [] cG fix/\cH (fun i=>ay i\/i=fb) cG w w':=by
 have H:=ab h;have p10:w.cell? (GB fb 10)=some (GW c.fr):=h.aq.cell 10;have p7:w.cell? (GB fb 7)=some (GW c.pl):=h.aq.cell 7;have Sh:w.cell? (GB fb 12)=some (GW c.ma):=h.aq.cell 12;have Si:w.cell? (GB fb 13)=some (GW c.mz):=h.aq.cell 13;have p14:w.cell? (GB fb 14)=some (.bool c.md):=h.aq.cell 14;have f7:w.frozen? (GB fb 7)=false:=h.aq.frozen 7;have f12:w.frozen? (GB fb 12)=false:=h.aq.frozen 12;have f13:w.frozen? (GB fb 13)=false:=h.aq.frozen 13;have f14:w.frozen? (GB fb 14)=false:=h.aq.frozen 14;have kB:aa (fun i=>i=fb) w ((((w.setCell (GB fb 7) (GW c.fr)).setCell (GB fb 12) (GW 0)).setCell (GB fb 13) (GW 0)).setCell (GB fb 14) (.bool false)):=((((aa.refl (fun i=>i=fb) w).setCell (p:=(GB fb 7)) (Or.inl rfl) _).setCell (p:=(GB fb 12)) (Or.inl rfl) _).setCell (p:=(GB fb 13)) (Or.inl rfl) _).setCell (p:=(GB fb 14)) (Or.inl rfl) _;have H1:Hid (fR ((((w.setCell (GB fb 7) (GW c.fr)).setCell (GB fb 12) (GW 0)).setCell (GB fb 13) (GW 0)).setCell (GB fb 14) (.bool false)) fb g c.jo K A mt l ay fix):=h.put kB ((((h.aq.setCell 7 (GW c.fr)).setCell 12 (GW 0)).setCell 13 (GW 0)).setCell 14 (.bool false)) ⟨rfl,rfl,rfl,rfl,rfl⟩;have KB:=ab kB;clear h kB H;go_in;go_wp2_with fail;generalize((((w.setCell (GB fb 7) (GW c.fr)).setCell (GB fb 12) (GW 0)).setCell (GB fb 13) (GW 0)).setCell (GB fb 14) (.bool false))=w1 at*;clear p10 p7 Sh Si p14 f7 f12 f13 f14;have F1:=ab (UB (pl:=c.fr) (H1.o.new (aa.refl _ w1).drew).aq (zN (H1.o.new (aa.refl _ w1).drew).kp) (H1.o.new (aa.refl _ w1).drew).ma.jS h0 h1 h2 h3 h4);rw[show oj c.jo K c.fr=oj c K c.fr from rfl]at F1;have hex:∃T xv,c.ev=.iface T xv:=by obtain⟨T,xv,fn,kx,_⟩:=H1.o.en.first;exact⟨T,xv,kx⟩
 obtain⟨T,xv,kx⟩:=hex
 have S1:Hid (∀W,aa ai w1 W->TE fb T xv c.fr W):=fun W k=>by
  have:=H1.o.aq.kept k (fun hx=>hx);exact⟨by rw[<-kx];exact this.cell 3,this.cell 7⟩
 refine j_ (Cl (by kernel_rfl) (Ci (S:=TE fb T xv c.fr) _ _ _ _ ?_));have ak:=S1.o w1.drew (aa.refl _ _).drew;refine aj 0 14 (BT fb 0) ak ?_;refine aj 1 15 (BT fb 0) ak ?_;refine aj 2 16 (BT fb 3) ak ?_;refine aj 3 17 (.iface T xv) ak ?_;refine aj 4 18 (BT fb 0) ak ?_;refine aj 5 19 (BT fb 0) ak ?_;refine aj 6 20 (BT fb 0) ak ?_;refine aj 7 21 (BT fb 7) ak ?_;refine aj 8 22 (GW c.fr) ak ?_;refine aj 10 24 (.iface T xv) ak ?_;refine aj 11 25 (.iface T xv) ak ?_;simp only[Act.put,Aa,Ad,Ac];refine bR 9 fun K hK=>?_
 go_simp;refine(F1.o).mono ?_;rintro e w2 ⟨rfl,k2⟩;dsimp only;have oO:aa ai w1 w2:=((aa.refl ai w1).drew).trans k2;have kY:=S1.o w2 oO;refine hK.o _ _ kY (fun _=>?_);clear hK K;have H2:=ab (H1.o.new oO);have K2:Hid (aa (fun i=>i=fb) w w2):=KB.o.b_ oO (fun i _ hx=>hx.elim);clear F1 S1 ak oO k2 H1 KB;obtain⟨T',xv',fn,Wb,iQ,MX,F2⟩:=H2.o.en.begin (c:=oj c K c.fr);have hT:T'=T/\xv'=xv:=by have:=Wb.symm.trans kx;simp at this;exact this
 obtain⟨rfl,rfl⟩:=hT;have F2:=ab F2;obtain⟨av,vV⟩:∃av,av=oj c K c.fr:=⟨_,rfl⟩
 rw[<-vV]at F2⊢;have TH:=ab vV;have TR:=ab Wb;clear kx Wb vV;refine bR 12 fun K hK=>?_
 go_simp;refine(F2.o).mono ?_;rintro e w3 ⟨rfl,amD,hE3,Vz⟩;dsimp only;have H3:=ab (H2.o.rR hE3 Vz);have rV:TE fb T' xv' c.fr w3:=⟨by rw[<-TR.o];exact H3.o.aq.cell 3,H3.o.aq.cell 7⟩;refine hK.o _ _ rV (fun _=>?_);clear hK K;refine At (by kernel_rfl) ?_ _;refine jE ?_;go_end0;refine⟨rfl,amD,by rw[<-TH.o];exact H3.o,⟨?_,?_⟩⟩
 ·exact(K2.o.mono (fun i hi=>Or.inr hi)).b_ Vz.kept (fun i _ hx=>Or.inl hx)
 ·intro i hi;rcases Vz.aq i hi with h|h
  ·exact Or.inl (Or.inl h)
  ·exact Or.inr (Bh K2.o.size h)
theorem FM.uQ(h:jj w g.lo g.hi g.mb g.cc g.vs g.ms)(hi:g.cP i):i<w.heap.size:=by
 have h1:=h.le;have h2:=h.jS.lt;have h3:=h.iz.lt;rcases hi with(hi|hi)|(hi|hi)
 ·rw[hi];exact h3
 ·omega
 ·rw[hi];exact h2.1
 ·rw[hi];exact h2.2
theorem fR.afl{w':World}{c':FC}{K':ByteArray}(h:fR w fb g c K A mt l ay fix)(k:aa (fun i=>i=fb\/c.kv.ownBlock=some i) w w')(hb:au w' fb c'.cells 124)(e:c'.mv=c.mv/\c'.st=c.st/\c'.G=c.G/\c'.ev=c.ev)
 (se:w'.ownsRow 0 5 1 c'.kv K'.size (jY K'))(jC:∀i,c'.kv.ownBlock=some i->c.kv.ownBlock=some i\/w.heap.size<=i):fR w' fb g c' K' A mt l ay fix where
 aq:=hb
 ma:=h.ma.NU k (fun i hi hm=>hi.elim (fun hi=>(h.nE i (Or.inr hm)).1 hi) (fun hi=>(h.nE i (Or.inr hm)).2 hi))
 mv:=e.1.trans h.mv
 st:=e.2.1.trans h.st
 G:=e.2.2.1.trans h.G
 en:=by rw[e.2.2.2];exact h.en.kept k (fun i hi=>⟨fun ho=>hi.elim (fun hi=>(h.lC i ho).1 hi) (fun hi=>(h.lC i ho).2.1 hi),fun hf=>hi.elim (fun hi=>(h.nE i (Or.inl hf)).1 hi) (fun hi=>(h.nE i (Or.inl hf)).2 hi)⟩)
 kp:=se
 lC i hi:=⟨(h.lC i hi).1,fun hx=>(jC i hx).elim (h.lC i hi).2.1 (fun hn=>by have:=h.en.lt.1 i hi;omega),(h.lC i hi).2.2⟩
 nE i hi:=⟨(h.nE i hi).1,fun hx=>(jC i hx).elim (h.nE i hi).2 (fun hn=>by
  have:i<w.heap.size:=hi.elim (h.en.lt.2 i) (fun hm=>FM.uQ h.ma hm);omega)⟩
 ub:=fun hx=>(jC fb hx).elim h.ub (fun hn=>by have:=h.aq.lt;omega)
theorem aid(h:fR w fb g c K A mt l ay fix)(h1:q<=c.aE):
 Calls prog 79 #[BT fb 0,GW q] w fun e w'=>e=.returned (.tuple #[])/\w'=w:=by
 have p5:w.cell? (GB fb 5)=some (GW c.aE):=h.aq.cell 5;generalize c.aE=bg at*;clear h;have h_:¬bg<q:=by omega
 go_in
 go_wp2_with fail
 go_end0
 exact⟨rfl,rfl⟩
theorem aie(h:fR w fb g c K A mt l ay fix)(h0:0<=c.aE)(h1:c.aE<q)(h2:q-c.aE<=K.size)(h3:q<=1000000000000)(h4:K.size<=100000000000):
 Calls prog 79 #[BT fb 0,GW q] w fun e w'=>e=.returned (.tuple #[])/\∃v',fR w' fb g {c with ah:=oj c K q,kv:=v',aE:=q} (K.extract (q-c.aE).toNat K.size) A mt l ay fix/\aa (fun i=>i=fb) w w'/\∀i,v'.ownBlock=some i->w.heap.size<=i:=by
 have H:=ab h;have p5:w.cell? (GB fb 5)=some (GW c.aE):=h.aq.cell 5;have F1:=ab (UB (pl:=q) h.aq (zN h.kp) h.ma.jS h0 (by omega) h2 h3 (by omega));clear h;go_in;go_wp2_with fail;refine(F1.o).mono ?_;rintro e w1 ⟨rfl,k1⟩;have H1:=ab (H.o.new k1);have K1:=ab k1;obtain⟨av,vV⟩:∃av,av=oj c K q:=⟨_,rfl⟩
 rw[<-vV];have TH:=ab vV;have p6:w1.cell? (GB fb 6)=some (.int .i32 c.ah):=H1.o.aq.cell 6;have f6:w1.frozen? (GB fb 6)=false:=H1.o.aq.frozen 6;have B2:=ab (show au (w1.setCell (GB fb 6) (.int .i32 av)) fb ({c with ah:=av}:FC).cells 124 from H1.o.aq.setCell 6 (.int .i32 av));have K2:Hid (aa (fun i=>i=fb) w1 (w1.setCell (GB fb 6) (.int .i32 av))):=(aa.refl (fun i=>i=fb) w1).setCell (p:=(GB fb 6)) (Or.inl rfl) _;have F2:=ab (RT (c:={c with ah:=av}) (pl:=q) B2.o ((zN H1.o.kp).kept K2.o (fun i hi hx=>H1.o.ub (by rw[<-hx];exact hi))) h0 (show c.aE<=q by omega) h2 h3);have h12:=K2.o.size;clear F1 k1 vV p5 H;go_wp2_with fail;generalize w1.setCell (GB fb 6) (.int .i32 av)=w2 at*;clear p6 f6;refine(F2.o).mono ?_;rintro e w3 ⟨⟨v,rfl,tf⟩,n,rfl⟩;have aW:(K.extract (q-c.aE).toNat K.size).size<=140737488355328:=by rw[extract_size K _ _ (Ab _)];omega
 have F3:=ab (ahG (w:=w2.drewN n) (tf.new ((aa.refl _ w2).drewN n)) aW);clear tf aW F2;go_wp2_with fail;refine(F3.o).mono ?_;rintro e w4 ⟨v',rfl,dU,k4⟩;have NS:aa ai w2 w4:=((aa.refl ai w2).drewN n).trans k4;have B4:=B2.o.kept NS (fun hx=>hx);have K14:=ab (K2.o.b_ NS (fun i _ hx=>hx.elim));have HN:Hid (∀i,v'.ownBlock=some i->w2.heap.size<=i):=fun i hi=>(dw dU hi).1
 have acD:w4.ownsRow 0 5 1 v' (K.extract (q-c.aE).toNat K.size).size (jY (K.extract (q-c.aE).toNat K.size)):=ye dU (Al _);have p4:w4.cell? (GB fb 4)=some c.kv:=B4.cell 4;have f4:w4.frozen? (GB fb 4)=false:=B4.frozen 4;have B5:=B4.setCell 4 v';have q5:(w4.setCell (GB fb 4) v').cell? (GB fb 5)=some (GW c.aE):=B5.cell 5;have f5:(w4.setCell (GB fb 4) v').frozen? (GB fb 5)=false:=B5.frozen 5;have B6:=ab (show au ((w4.setCell (GB fb 4) v').setCell (GB fb 5) (GW q)) fb ({c with ah:=av,kv:=v',aE:=q}:FC).cells 124 from B5.setCell 5 (GW q));have HR:=ab acD;obtain⟨ao,nv,cv,H7⟩:∃ao nv cv,v'=.slice ao nv cv:=by obtain⟨ao,cv,h⟩:=cw dU;exact⟨ao,_,cv,h⟩
 clear F3 B2 K2 dU acD k4 NS B4 B5;subst H7;go_wp2_with fail;go_end0;have kk:aa (fun i=>i=fb) w1 ((w4.setCell (GB fb 4) (.slice ao nv cv)).setCell (GB fb 5) (GW q)):=(K14.o.setCell (p:=(GB fb 4)) (Or.inl rfl) _).setCell (p:=(GB fb 5)) (Or.inl rfl) _;have cZ:=K1.o.size;refine⟨rfl,_,?_,(K1.o.mono (fun i hx=>hx.elim)).b_ kk (fun i _ hx=>hx),fun i hi=>by have:=HN.o i hi;omega⟩;rw[<-TH.o];refine H1.o.afl (kk.mono (fun i hi=>Or.inl hi)) B6.o ⟨rfl,rfl,rfl,rfl⟩ ?_ (fun i hi=>Or.inr (by have:=HN.o i hi;omega));refine bU HR.o ((((aa.refl (fun i=>i=fb) w4).setCell (p:=(GB fb 4)) (Or.inl rfl) _).setCell (p:=(GB fb 5)) (Or.inl rfl) _)) (fun b hb hx=>?_);have:=HN.o b hb;have:=H1.o.aq.lt;omega
theorem aps(hg:g.Ok)(h:fR w fb g c K A mt l ay fix)(h0:0<=c.aE)(h1:c.aE<=c.ma)(Hy:c.ma<=c.re)(h2:c.re-c.aE<=K.size)(h3:c.re<=1000000000000)(h4:K.size<=10000000)(hz:0<=c.mz/\c.mz<=1000000000000)(hp:0<=c.pl/\c.pl<=1000000000000)
 (ha:c.ag=true)(hf:32<c.pl-c.mz):
 Calls prog 77 #[BT fb 0] w fun e w'=>∃v lx,e=.returned v/\FD w fb g c K A mt l ay fix (wG c K c.ma c.re true) v lx w':=by
 have Sh:w.cell? (GB fb 12)=some (GW c.ma):=h.aq.cell 12;have Si:w.cell? (GB fb 13)=some (GW c.mz):=h.aq.cell 13;have p9:w.cell? (GB fb 9)=some (.bool true):=(h.aq.cell 9).trans (by show some (Value.bool c.ag)=_;rw[ha]);have p7:w.cell? (GB fb 7)=some (GW c.pl):=h.aq.cell 7;have p8:w.cell? (GB fb 8)=some (GW c.re):=h.aq.cell 8;have DA:IntKind.i64.wrap (c.pl-c.mz)=c.pl-c.mz:=AA (by omega) (by omega);have F:=ab fun(n:Nat)=>adn (op:=true) (w:=w.drewN n) hg (h.new ((aa.refl ai w).drewN n)) h0 h1 Hy h2 h3 h4
 have aA:Hid (∀n v lx w',FD (w.drewN n) fb g c K A mt l ay fix (wG c K c.ma c.re true) v lx w'->FD w fb g c K A mt l ay fix (wG c K c.ma c.re true) v lx w'):=fun n v lx w' hL=>⟨hL.c_,hL.eq,hL.mem,((aa.refl _ w).drewN n).trans hL.kept⟩
 clear h ha h1 Hy h2 h3 h4 h0;go_in;go_wp2_with fail;go_quiet (fail);go_wp2_with fail;refine(F.o nq).mono ?_;rintro e w1 ⟨v,lx,rfl,hL⟩;have HL:=ab (aA.o _ _ _ _ hL);clear hL F aA;go_wp2_with fail;go_ret;exact⟨v,lx,rfl,HL.o⟩
theorem fR.lt(h:fR w fb g c K A mt l ay fix)(hi:FO fb c ay i\/fix i\/g.cP i):i<w.heap.size:=by
 rcases hi with(hi|hi|hi)|hi|hi
 ·exact h.en.lt.1 i hi
 ·rw[hi];exact h.aq.lt
 ·exact(dw h.kp hi).2
 ·exact h.en.lt.2 i hi
 ·exact FM.uQ h.ma hi
def Tc(c:FC)(K:ByteArray)(bh:Int):CX:=⟨K.extract (c.ma-c.aE).toNat (c.mz-c.aE).toNat,c.ma,oj c K c.ma,bh,false⟩
def FC.told(c:FC)(n:Int):FC:={c with fr:=if c.ma=c.mz then c.mz+n else c.mz,tl:=c.mz}
def FC.J8(c:FC):Bool:=!(c.ma==c.mz&&c.mz==c.tl)
structure TlP(w:World)(fb:Nat)(g:FM)(c:FC)(K:ByteArray)(A:Int)(mt:Bool)(l:List bJ)(ay fix:Nat->Prop)(n:Int)(gs:List Int)(v:Value)(w':World):Prop where
 mem:fR w' fb g (c.told n) K A mt l ay fix
 kept:aa (fun i=>i=fb) w w'
 no:c.J8=false->v=.slice none 0 0
 yes:c.J8=true->∃b gv,v=.slice (some (GB b 0)) 1 1/\w.heap.size<=b/\au w' b #[GW c.ma,GW c.mz,gv,.string (K.extract (c.ma-c.aE).toNat (c.mz-c.aE).toNat)] 46/\vc w' (fun i=>w.heap.size<=i) gv gs
def aax(fb:Nat)(kv v':Value)(bg:Int)(s:ByteArray)(W:World):Prop:=(W.cell? (GB fb 4)=some kv/\W.cell? (GB fb 5)=some (GW bg))/\(convert 42 9 v').run prog W=.ok (.string s) W
def Uw(fb:Nat)(g:FM)(W:World):Prop:=W.cell? (GB fb 0)=some (.slice (some (GB g.mb 0)) g.ms.length g.cc)/\W.cell? (GB fb 1)=some (GW (g.u0:Int))/\W.cell? (GB fb 2)=some (GW (g.G:Int))
theorem apt{d:Nat×Nat}{j:Nat}{gs:List Int}(hg:g.Ok)(h:fR w fb g c K A mt l ay fix)(h0:0<=c.aE)(h1:c.aE<=c.ma)(Hy:c.ma<=c.mz)(h2:c.mz-c.aE<=K.size)(h3:c.mz<=1000000000000)(h4:K.size<=10000000)(hp:0<=c.pl/\c.pl<=1000000000000)
 (hn:¬(c.ag=true/\32<c.pl-c.mz))(hd:Lib.decodeGo (K.extract (c.mz-c.aE).toNat K.size)=d)(hw:d.2<=4)
 (hR:dd g.ms (Tc c K d.1) (g.u0:Int) 0 (gR g.G)=some (j,gs))(lh:gs.length=2*g.G):
 Calls prog 77 #[BT fb 0] w fun e w'=>∃v,e=.returned v/\TlP w fb g c K A mt l ay fix d.2 gs v w':=by
 have H:=ab h;have Sh:w.cell? (GB fb 12)=some (GW c.ma):=h.aq.cell 12;have Si:w.cell? (GB fb 13)=some (GW c.mz):=h.aq.cell 13;have p9:w.cell? (GB fb 9)=some (.bool c.ag):=h.aq.cell 9;have p7:w.cell? (GB fb 7)=some (GW c.pl):=h.aq.cell 7;have DA:IntKind.i64.wrap (c.pl-c.mz)=c.pl-c.mz:=AA (by omega) (by omega)
 have gV:(c.ag=false/\True)\/(c.ag=true/\¬32<c.pl-c.mz):=by
  cases Q3:c.ag with
  |false=>exact Or.inl ⟨rfl,trivial⟩
  |true=>exact Or.inr ⟨rfl,fun hx=>hn ⟨Q3,hx⟩⟩
 rcases gV with⟨Q3,si⟩|⟨Q3,si⟩
 all_goals
  rw[Q3]at p9;have HR:=ab hR;clear h hR;go_in;go_wp2_with fail;go_quiet (fail);have H1:=ab (H.o.new ((aa.refl _ w).drewN nq));have K1:Hid (aa ai w (w.drewN nq)):=(aa.refl _ w).drewN nq;have q9:(w.drewN nq).cell? (GB fb 9)=some (.bool _):=p9;have q7:(w.drewN nq).cell? (GB fb 7)=some (GW c.pl):=p7;generalize w.drewN nq=w1 at*;clear Sh Si p9 p7 H;have F1:=ab (RT (pl:=c.mz) H1.o.aq (zN H1.o.kp) h0 (by omega) h2 h3);go_wp2_with fail;refine(F1.o).mono ?_;rintro e w2 ⟨⟨v,rfl,tf⟩,n,rfl⟩;have F2:=ab (aa8 (w:=w1.drewN n) (tf.new ((aa.refl _ w1).drewN n)) (H1.o.ma.jS.iR ((aa.refl _ w1).drewN n)));rw[hd]at F2;clear tf F1 q9 q7;go_wp2_with fail;refine(F2.o).mono ?_;rintro e w3 ⟨rfl,k3⟩;have Ii:=((aa.refl ai w1).drewN n).trans k3;have H3:=ab (H1.o.new Ii);have K3:=ab (K1.o.trans Ii);clear F2 k3 Ii H1 K1;have F3:=aeD w3 fb 10 c.cells 124 c.fr c.tl c.ma c.mz (d.2:Int) (by rw[FC.xy];exact H3.o.aq) (by show 10+1<17;decide) (by omega) (by omega);obtain⟨ie,qg⟩:∃ie,ie=c.J8:=⟨_,rfl⟩
  rw[show(!(c.ma==c.mz&&c.mz==c.tl))=ie from qg.symm]at F3;have F3:=ab F3;have T0:=ab qg;clear qg;go_wp2_with fail;refine(F3.o).mono ?_;rintro e w4 ⟨rfl,k4,hB4⟩;have H4:=ab (show fR w4 fb g (c.told d.2) K A mt l ay fix from H3.o.put k4 hB4 ⟨rfl,rfl,rfl,rfl,rfl⟩);have K4:Hid (aa (fun i=>i=fb) w w4):=(K3.o.mono (S':=fun i=>i=fb) (fun i hx=>hx.elim)).trans k4;clear F3 k4 hB4 H3 K3
  cases ie with
  |false=>
   go_wp2_with fail
   go_ret
   exact⟨_,rfl,H4.o,K4.o,fun _=>rfl,fun hx=>absurd (T0.o.trans hx) (by decide)⟩
  |true=>
   have gX:=afF (zN H4.o.kp) (x:=c.ma-c.aE) (y:=c.mz-c.aE) (by omega) (by omega) h2;obtain⟨v',gX,kZ,_⟩:=gX;have oM:IntKind.i64.wrap (c.ma-c.aE)=c.ma-c.aE:=AA (by omega) (by omega);have ql:IntKind.i64.wrap (c.mz-c.aE)=c.mz-c.aE:=AA (by omega) (by omega);have oF:(c.told d.2).kv=c.kv:=rfl;have nb:(c.told d.2).aE=c.aE:=rfl;rw[oF]at gX;obtain⟨s,hs⟩:∃s,s=K.extract (c.ma-c.aE).toNat (c.mz-c.aE).toNat:=⟨_,rfl⟩
   rw[<-hs]at kZ;have HS:=ab hs;obtain⟨kv,Wt⟩:∃kv,kv=c.kv:=⟨_,rfl⟩
   rw[<-Wt]at gX
   have S7:Hid (∀W,aa ai w4 W->aax fb kv v' c.aE s W):=fun W k=>by
    have:=H4.o.aq.kept k (fun hx=>hx);exact⟨⟨by rw[Wt];exact this.cell 4,this.cell 5⟩,aa1 (kZ.new k)⟩
   clear oF nb kZ hs Wt;go_wp2_with fail;refine j_ (Cl (by kernel_rfl) (Ci (S:=aax fb kv v' c.aE s) _ _ _ _ ?_));have ak:=S7.o w4.drew (aa.refl _ _).drew;refine aj 0 53 (GW c.ma) ak ?_;refine aj 1 54 (GW c.mz) ak ?_;refine aj 2 55 (BT fb 0) ak ?_;refine aj 3 56 (BT fb 0) ak ?_;refine aj 4 57 (BT fb 4) ak ?_;refine aj 5 58 kv ak ?_;refine aj 6 59 (GW c.ma) ak ?_;refine aj 7 60 (BT fb 0) ak ?_;refine aj 8 61 (BT fb 0) ak ?_;refine aj 9 62 (BT fb 5) ak ?_;refine aj 10 63 (GW c.aE) ak ?_;refine aj 11 64 (GW (c.ma-c.aE)) ak ?_;refine aj 12 65 (GW c.mz) ak ?_;refine aj 13 66 (BT fb 0) ak ?_;refine aj 14 67 (BT fb 0) ak ?_;refine aj 15 68 (BT fb 5) ak ?_;refine aj 16 69 (GW c.aE) ak ?_;refine aj 17 70 (GW (c.mz-c.aE)) ak ?_;refine aj 18 71 v' ak ?_;refine aj 19 72 (.string s) ak ?_;refine aj 20 73 (.agg #[GW c.ma,GW c.mz,.slice none 0 0,.string s]) ak ?_;simp only[Act.put,Aa,Ad,Ac];refine bR 21 fun K hK=>?_
   go_simp;have B5:au (w4.alloc (.cells #[GW 0,GW 0,.slice none 0 0,.string ⟨#[]⟩] 46)).drew w4.heap.size #[GW 0,GW 0,.slice none 0 0,.string ⟨#[]⟩] 46:=au.new w4 _ _;have k5:aa ai w4 (w4.alloc (.cells #[GW 0,GW 0,.slice none 0 0,.string ⟨#[]⟩] 46)).drew:=((aa.refl ai w4).alloc _).drew;refine hK.o _ _ (S7.o _ k5) (fun _=>?_);clear hK K;generalize(w4.alloc (.cells #[GW 0,GW 0,.slice none 0 0,.string ⟨#[]⟩] 46)).drew=w5 at*;have c0:w5.cell? (GB w4.heap.size 0)=some (GW 0):=B5.cell 0;have c1:w5.cell? (GB w4.heap.size 1)=some (GW 0):=B5.cell 1;have c2:w5.cell? (GB w4.heap.size 2)=some (.slice none 0 0):=B5.cell 2;have c3:w5.cell? (GB w4.heap.size 3)=some (.string ⟨#[]⟩):=B5.cell 3;have f0:w5.frozen? (GB w4.heap.size 0)=false:=B5.frozen 0;have f1:w5.frozen? (GB w4.heap.size 1)=false:=B5.frozen 1;have f2:w5.frozen? (GB w4.heap.size 2)=false:=B5.frozen 2;have f3:w5.frozen? (GB w4.heap.size 3)=false:=B5.frozen 3;have K6:Hid (aa ai w4 ((((w5.setCell (GB w4.heap.size 0) (GW c.ma)).setCell (GB w4.heap.size 1) (GW c.mz)).setCell (GB w4.heap.size 2) (.slice none 0 0)).setCell (GB w4.heap.size 3) (.string s))):=(((k5.setCell (p:=(GB w4.heap.size 0)) (Or.inr (Ab _)) _).setCell (p:=(GB w4.heap.size 1)) (Or.inr (Ab _)) _).setCell (p:=(GB w4.heap.size 2)) (Or.inr (Ab _)) _).setCell (p:=(GB w4.heap.size 3)) (Or.inr (Ab _)) _;have B6:Hid (au ((((w5.setCell (GB w4.heap.size 0) (GW c.ma)).setCell (GB w4.heap.size 1) (GW c.mz)).setCell (GB w4.heap.size 2) (.slice none 0 0)).setCell (GB w4.heap.size 3) (.string s)) w4.heap.size #[GW c.ma,GW c.mz,.slice none 0 0,.string s] 46):=(((B5.setCell 0 (GW c.ma)).setCell 1 (GW c.mz)).setCell 2 (.slice none 0 0)).setCell 3 (.string s);clear B5 k5;refine bR 22 fun K hK=>?_
   go_simp;generalize((((w5.setCell (GB w4.heap.size 0) (GW c.ma)).setCell (GB w4.heap.size 1) (GW c.mz)).setCell (GB w4.heap.size 2) (.slice none 0 0)).setCell (GB w4.heap.size 3) (.string s))=w6 at*;refine hK.o _ _ (S7.o _ K6.o) (fun _=>?_);clear hK K c0 c1 c2 c3 f0 f1 f2 f3;refine At (by kernel_rfl) ?_ _;refine jE ?_;clear S7 ak gX oM ql;have H6:=ab (H4.o.new K6.o);have Uc:Hid (aa (fun i=>i=fb) w w6):=K4.o.b_ K6.o (fun i _ hx=>hx.elim);have qi:=K4.o.size;have aq7:=K6.o.size;have az:w4.heap.size<w6.heap.size:=B6.o.lt;have EO:Hid (∀i,FO fb (c.told d.2) ay i\/fix i\/g.cP i->i<w4.heap.size):=(fun i hi=>H4.o.lt hi);clear H4 K4 K6;have g2:w6.cell? (GB fb 2)=some (GW (g.G:Int)):=(H6.o.aq.cell 2).trans (by show some (GW c.G)=_;rw[show c.G=(g.G:Int)from H6.o.G]);go_simp;by_cases hG:g.G=0
   ·have ajC:Hid (gs=[]):=Aw.1 (by rw[lh,hG]);have hgz:¬(0:Int)<(g.G:Int):=(by omega);have Wh:¬0<g.G:=(by omega);have d0:w6.cell? (GB w4.heap.size 0)=some (GW c.ma):=B6.o.cell 0;have d1:w6.cell? (GB w4.heap.size 1)=some (GW c.mz):=B6.o.cell 1;have d2:w6.cell? (GB w4.heap.size 2)=some (.slice none 0 0):=B6.o.cell 2;have d3:w6.cell? (GB w4.heap.size 3)=some (.string s):=B6.o.cell 3;go_wp2_with fail;go_ret;refine⟨_,rfl,H6.o.new ((aa.refl ai w6).alloc _),Uc.o.alloc _,fun hx=>absurd (T0.o.trans hx) (by decide),fun _=>⟨w6.heap.size,.slice none 0 0,rfl,by omega,?_,Or.inl ⟨rfl,ajC.o⟩⟩⟩;rw[<-HS.o];exact au.new w6 _ _
   ·have hgz:(0:Int)<(g.G:Int):=(by omega);have Wh:0<g.G:=(by omega);go_wp2_with fail;obtain⟨x,hx⟩:∃x,x=Tc c K (d.1:Int):=⟨_,rfl⟩
    have tB:x.s=K.extract (c.ma-c.aE).toNat (c.mz-c.aE).toNat:=by rw[hx];rfl
    have uJ:x.aE=c.ma:=by rw[hx];rfl
    have DB:x.ah=oj c K c.ma:=by rw[hx];rfl
    have zw:x.bh=(d.1:Int):=by rw[hx];rfl
    have J5:x.op=false:=by rw[hx];rfl
    have aW:x.s.size<=10000000:=by rw[tB,extract_size K _ _ (by omega)];omega
    have F8:=afC (p:=c.ma) (q:=c.mz) (bh:=(d.1:Int)) (H6.o.new (aa.refl ai w6).drew).aq (zN (H6.o.new (aa.refl ai w6).drew).kp) (H6.o.new (aa.refl ai w6).drew).ma.jS h0 h1 Hy h2 h3 (by omega)
    have F8:Calls prog 80 #[BT fb 0,GW c.ma,GW c.mz,.int .i32 (d.1:Int)] w6.drew fun e w'=>e=.returned (.agg #[.string x.s,GW x.aE,.int .i32 x.ah,.int .i32 x.bh,.bool x.op])/\aa ai w6.drew w':=by
     rw[tB,uJ,DB,zw,J5];exact F8
    have F9:=(ab fun(W:World) (k:aa ai w6 W)=>agf (w:=W) (x:=x) (u0:=g.u0) (G2:=g.G) (j:=j) (jL:=gs) (H6.o.ma.kept k) hg.fJ hg.q hg.bN aW (by rw[uJ];omega) hg.u0 hg.G J5 (by rw[hx];exact HR.o));have F8:=ab F8
    have S9:Hid (∀W,aa ai w6 W->Uw fb g W):=fun W k=>by
     have a:=H6.o.aq.kept k (fun hx=>hx);exact⟨(a.cell 0).trans (by show some c.mv=_;rw[show c.mv=g.mv from H6.o.mv];rfl),(a.cell 1).trans (by show some (GW c.st)=_;rw[show c.st=(g.u0:Int)from H6.o.st]),(a.cell 2).trans (by show some (GW c.G)=_;rw[show c.G=(g.G:Int)from H6.o.G])⟩
    have HX:=ab hx;clear hx tB uJ DB zw J5 aW HR;refine j_ (Cl (by kernel_rfl) (Ci (S:=Uw fb g) _ _ _ _ ?_));have ak:=S9.o w6.drew (aa.refl _ _).drew;refine aj 0 80 (BT fb 0) ak ?_;refine aj 1 81 (BT fb 0) ak ?_;refine aj 2 82 (BT fb 0) ak ?_;refine aj 3 83 (.agg #[.slice (some (GB g.mb 0)) g.ms.length g.cc,GW (g.u0:Int),GW (g.G:Int)]) ak ?_;refine aj 4 84 (BT fb 0) ak ?_;refine aj 5 85 (GW c.ma) ak ?_;refine aj 6 86 (GW c.mz) ak ?_;refine aj 7 87 (.int .i32 (d.1:Int)) ak ?_;simp only[Act.put,Aa,Ad,Ac];refine bR 8 fun K hK=>?_
    go_simp;refine(F8.o).mono ?_;rintro e w7 ⟨rfl,k7⟩;dsimp only;have lK:aa ai w6 w7:=((aa.refl ai w6).drew).trans k7;refine hK.o _ _ (S9.o _ lK) (fun _=>?_);clear hK K F8 k7;refine bR 9 fun K hK=>?_
    go_simp;refine(F9.o w7 lK).mono ?_;rintro e w8 ⟨gb,rfl,k_,BV,k8⟩;dsimp only;have NT:=lK.trans k8;have aq9:=NT.size;have xE:=S9.o _ NT;have B8:=B6.o.kept NT (fun hx=>hx);have H8:=H6.o.new NT;have aq8:=lK.size;refine hK.o _ _ xE (fun _=>?_);clear hK K F9;refine aj 10 90 (BT w4.heap.size 2) xE ?_;have c2:w8.cell? (GB w4.heap.size 2)=some (.slice none 0 0):=B8.cell 2;have f2:w8.frozen? (GB w4.heap.size 2)=false:=B8.frozen 2;have K9:Hid (aa (fun i=>i=w4.heap.size) w8 (w8.setCell (GB w4.heap.size 2) (.slice (some (GB gb 0)) (2*g.G) (2*g.G)))):=(aa.refl (fun i=>i=w4.heap.size) w8).setCell (p:=(GB w4.heap.size 2)) (Or.inl rfl) _;have B9:Hid (au (w8.setCell (GB w4.heap.size 2) (.slice (some (GB gb 0)) (2*g.G) (2*g.G))) w4.heap.size #[GW c.ma,GW c.mz,.slice (some (GB gb 0)) (2*g.G) (2*g.G),.string s] 46):=B8.setCell 2 _;have EA:=ab (And.intro H8 BV);have K08:Hid (aa (fun i=>i=fb) w w8):=Uc.o.b_ NT (fun i _ hx=>hx.elim);clear B8 H8 BV;simp only[Act.put,Aa,Ad,Ac];refine bR 11 fun K hK=>?_
    go_simp;generalize(w8.setCell (GB w4.heap.size 2) (.slice (some (GB gb 0)) (2*g.G) (2*g.G)))=w9 at*
    have H9:=ab (EA.o.1.kept K9.o (fun i hi=>by
     have hi':i=w4.heap.size:=hi;refine⟨fun h=>?_,fun h=>?_,fun h=>?_⟩
     ·have:=EO.o i (Or.inl h);omega
     ·have:=EO.o i (Or.inr (Or.inl h));omega
     ·have:=EO.o i (Or.inr (Or.inr h));omega))
    have ajy:¬gb=w4.heap.size:=(by omega);have BG:=ab (EA.o.2.kept K9.o (fun e=>ajy e));have K09:Hid (aa (fun i=>i=fb) w w9):=K08.o.b_ K9.o (fun i hi hx=>by have xS:i=w4.heap.size:=hx;omega);have MP:Uw fb g w9:=⟨(H9.o.aq.cell 0).trans (by show some c.mv=_;rw[show c.mv=g.mv from H9.o.mv];rfl),(H9.o.aq.cell 1).trans (by show some (GW c.st)=_;rw[show c.st=(g.u0:Int)from H9.o.st]),(H9.o.aq.cell 2).trans (by show some (GW c.G)=_;rw[show c.G=(g.G:Int)from H9.o.G])⟩;refine hK.o _ _ MP (fun _=>?_);clear hK K c2 f2;refine At (by kernel_rfl) ?_ _;refine jE ?_;have d0:w9.cell? (GB w4.heap.size 0)=some (GW c.ma):=B9.o.cell 0;have d1:w9.cell? (GB w4.heap.size 1)=some (GW c.mz):=B9.o.cell 1;have d2:w9.cell? (GB w4.heap.size 2)=some (.slice (some (GB gb 0)) (2*g.G) (2*g.G)):=B9.o.cell 2;have d3:w9.cell? (GB w4.heap.size 3)=some (.string s):=B9.o.cell 3;have hs9:=K9.o.size;clear S9 ak xE MP H6 B6 Uc;go_simp;go_wp2_with fail;go_ret;refine⟨_,rfl,H9.o.new ((aa.refl ai w9).alloc _),K09.o.alloc _,fun hx=>absurd (T0.o.trans hx) (by decide),fun _=>⟨w9.heap.size,.slice (some (GB gb 0)) (2*g.G) (2*g.G),rfl,by omega,?_,Or.inr ⟨gb,by rw[lh],by omega,BG.o.alloc _⟩⟩⟩;rw[<-HS.o];exact au.new w9 _ _
theorem Qn{f:Nat}(hf:f<=(aJ X).length)(h:aR X f<=aR X a):f<=a\/(aJ X).length<=a:=by
 rcases Nat.lt_or_ge a f with h1|h1
 ·have:=AX h1 (show a<(aJ X).length by omega);unfold aR at h;omega
 ·exact Or.inl h1
theorem Qf(hc:Pa X s c)(hf:s.f<=a)(ha:a<=(aJ X).length)(hq:bd X a<=s.bu)(hx:s.bu<=X.size):vB X a (oj c (s.K X) (aR X a)):=by
 unfold oj;by_cases e:aR X a=c.aE
 ·rw[if_pos e];have:a=s.f:=Ql ha (by omega) (by rw[e,hc.aE]);rw[this];exact hc.j9
 ·rw[if_neg e];have aB:s.f≠a:=fun h=>e (by rw[hc.aE,h])
  have hm:=fZ X hf;have e1:(aR X a-c.aE).toNat=bd X a-bd X s.f:=by rw[hc.aE];unfold aR;omega
  have e2:(s.K X).extract 0 (aR X a-c.aE).toNat=X.extract (bd X s.f) (bd X a):=by
   rw[e1];unfold cx.K;rw[QD X _ _ _ _ (by omega)];congr 1;omega
  rw[e2,agw (by omega) ha];exact vB.mk X a
structure StX(w:World)(fb:Nat)(g:FM)(X:ByteArray)(s s':cx)(c:FC)(ay fix:Nat->Prop)(w':World)(c':FC)(cG:Nat->Prop):Prop where
 at_:jJ w' fb g X s' c' cG fix
 dt:cH (FO fb c ay) (FO fb c' cG) w w'
 tl:s'.b=s.b/\s'.told=s.told/\s'.i=s.i+1/\s'.bu=s.bu/\s'.f=s.f/\c'.wn=c.wn
 ty:∃A,s'=s.step g.ms g.u0 X A/\pR g.ms ((aQ X).ahead s.i) A
theorem aiN(hg:g.Ok)(h:jJ w fb g X s c ay fix)(M7:vP (X.extract (bd X s.i) s.bu)=true):
 Calls prog 75 #[BT fb 0] w fun e w'=>e=.returned (.tuple #[])/\∃s' c' cG,StX w fb g X s s' c ay fix w' c' cG:=by
 obtain⟨A,hM,hA⟩:=h.mem;have hc:=h.fc;have hk:=h.ok;obtain⟨b1,b2,b3,b4,b5,b6⟩:=hk.xw;obtain⟨hi,hn⟩:=abM b5 b4 M7;have aW:=hk.sz;have iO:=pY hi;have vZ:=uc hi;obtain⟨r1,r2⟩:=ae3 hi b4 hn;have hr:=SG hi
 have eK:(s.K X).extract (c.pl-c.aE).toNat (s.K X).size=X.extract (bd X s.i) s.bu:=by
  have:(c.pl-c.aE).toNat=bd X s.i-bd X s.f:=by rw[hc.pl,hc.aE];unfold aR;omega
  rw[this];exact cx.from_ b1 (by omega) b4
 obtain⟨d,hd⟩:∃d,d=Lib.decodeGo (X.extract (bd X s.i) s.bu):=⟨_,rfl⟩
 rw[<-hd]at r1 r2;have hp:c.pl=(bd X s.i:Int):=hc.pl;have hb:c.aE=(bd X s.f:Int):=hc.aE;have Hz:c.re=(bd X s.r:Int):=hc.re;have akd:((d.1:Nat):Int)=(aQ X).bF s.i:=r1;refine(ao9 (d:=d) hM (by omega) (by omega) (by omega) (by omega) (by omega) (by rw[eK,hd]) (by have:(aQ X).bF s.i=(iA X).bF s.i:=rfl;omega) (by omega)).mono ?_;rintro e w' ⟨rfl,cG,hS⟩;refine⟨rfl,s.step g.ms g.u0 X A,c.step d.2 (bc g.ms A ((aQ X).bF s.i) (j7 g.u0 (aR X s.i) s.mt.isSome s.l)),cG,⟨⟨⟨(aQ X).bF s.i,?_,?_⟩,?_,hk.step hg.fJ hg.u0 hA hi hn⟩,⟨?_,?_⟩,⟨rfl,rfl,rfl,rfl,rfl,rfl⟩,⟨A,rfl,hA⟩⟩⟩
 ·have hm:=hS.mem;have e1:qq (g.u0:Int) c.pl s.mt.isSome s.l=j7 g.u0 (aR X s.i) s.mt.isSome s.l:=by rw[hc.pl];rfl
  rw[e1,akd]at hm
  have e2:(s.mt.isSome||(bc g.ms A ((aQ X).bF s.i) (j7 g.u0 (aR X s.i) s.mt.isSome s.l)).2.isSome)=(s.step g.ms g.u0 X A).mt.isSome:=by
   show _=(uR s.i _ s.mt).isSome
   unfold uR
   cases(bc g.ms A ((aQ X).bF s.i) (j7 g.u0 (aR X s.i) s.mt.isSome s.l)).2<;>cases s.mt<;>rfl
  rw[e2]at hm;exact hm
 ·have:(aQ X).ahead (s.i+1)=(aQ X).bF s.i:=by unfold CX.ahead;rw[if_neg (by omega)];rfl
  show pR g.ms ((aQ X).ahead (s.i+1)) ((aQ X).bF s.i)
  rw[this];exact fun _ _ _ _ _=>rfl
 ·refine⟨hc.aE,hc.j9,?_,?_,hc.tl,?_,?_,hc.ov⟩
  ·show c.pl+(d.2:Int)=aR X (s.i+1)
   rw[hp];unfold aR;omega
  ·show max c.re (c.pl+(d.2:Int))=aR X (max s.r (s.i+1))
   rw[Hz,hp];rcases Nat.le_total s.r (s.i+1)with h1|h1
   ·have:=fZ X h1;rw[Nat.max_eq_right h1];unfold aR;omega
   ·have:=fZ X h1;rw[Nat.max_eq_left h1];unfold aR;omega
  ·show(c.md||_)=(uR s.i _ s.mt).isSome
   unfold uR;rw[hc.md]
   cases(bc g.ms A ((aQ X).bF s.i) (j7 g.u0 (aR X s.i) s.mt.isSome s.l)).2<;>cases s.mt<;>rfl
  ·intro a j hm;have f_:uR s.i (bc g.ms A ((aQ X).bF s.i) (j7 g.u0 (aR X s.i) s.mt.isSome s.l)).2 s.mt=some (a,j):=hm;unfold uR at f_;unfold FC.step
   cases hq:(bc g.ms A ((aQ X).bF s.i) (j7 g.u0 (aR X s.i) s.mt.isSome s.l)).2 with
   |none=>
    rw[hq]at f_;simp only[Option.map_none,Ed]at f_;exact hc.mt a j f_
   |some q=>
    rw[hq]at f_;simp only[Da,Ec,Bd,Cp]at f_;refine⟨by simp only[Fd,if_true,De];exact f_.1,?_⟩;simp only[Fd,if_true];rw[hc.pl,f_.2]
 ·exact hS.dt.kept.mono (fun i hi=>hi.elim Or.inl (fun h=>Or.inr (Or.inl h)))
 ·intro i hi;rcases hi with hi|hi|hi
  ·rcases hS.dt.aq i hi with(h|h)|h
   ·exact Or.inl (Or.inl h)
   ·exact Or.inl (Or.inr (Or.inl h))
   ·exact Or.inr h
  ·exact Or.inl (Or.inr (Or.inl hi))
  ·exact Or.inl (Or.inr (Or.inr hi))
