/- Package flow's stretch and look -/
import Derived.Test.YtpdnofhackjfdaaGreatDoorP41
set_option linter.all false
set_option maxRecDepth 100000
set_option maxHeartbeats 8000000
namespace Go.Proofs.YtpdnofhackjfdaaGreatDoor
open Go.Proofs.Tryz
open Go.RowKit Go.Maps
variable {mt:Bool} {K X:ByteArray} {c:FC} {g:FM} {s:bZ} {A p q:Int} {l:List bF} {a fb i:Nat} {fix au:Nat->Prop} {w:World}
def Zz(fb b8:Nat)(kv v':Value)(bg:Int)(s:ByteArray)(W:World):Prop:=(W.cell? ⟨fb,4,none⟩=some kv/\W.cell? ⟨fb,5,none⟩=some (.int .i64 bg))/\(convert 42 9 v').run prog W=.ok (.string s) W
theorem aeV{bh:Int}(hB:aq w fb c.cells 124)(hK:jL w c.kv K)(hT:ik w)(h0:0<=c.aB)(h1:c.aB<=p)(Gi:p<=q)(h2:q-c.aB<=K.size)(h3:q<=1000000000000)(h4:K.size<=1000000000000):
 Calls prog 80 #[.pointer (some ⟨fb,0,none⟩),.int .i64 p,.int .i64 q,.int .i32 bh] w fun e w'=>e=.returned (.agg #[.string (K.extract (p-c.aB).toNat (q-c.aB).toNat),.int .i64 p,.int .i32 (nT c K p),.int .i32 bh,.bool false])/\aa af w w':=by
 obtain⟨v',fM,hb,_⟩:=aeY hK (x:=p-c.aB) (y:=q-c.aB) (by omega) (by omega) h2;have pO:IntKind.i64.wrap (p-c.aB)=p-c.aB:=zm (by omega) (by omega);have pP:IntKind.i64.wrap (q-c.aB)=q-c.aB:=zm (by omega) (by omega);have F:=ab fun(W:World) (k:aa af w W)=>Td (pl:=p) (hB.kept k (fun hx=>hx)) (hK.new k) (hT.iU k) h0 h1 (by omega) (by omega) h4
 generalize nT c K p=av at*
 have S1:Hid (∀W,aa af w W->Zz fb w.heap.size c.kv v' c.aB (K.extract (p-c.aB).toNat (q-c.aB).toNat) W):=fun W k=>by
  have:=hB.kept k (fun hx=>hx);exact⟨⟨this.cell 4,this.cell 5⟩,aam (hb.new k)⟩
 generalize K.extract (p-c.aB).toNat (q-c.aB).toNat=s at*
 generalize c.kv=kv at*
 generalize c.aB=bg at*
 have B1:=aq.new w #[.string ⟨#[]⟩,.int .i64 0,.int .i32 0,.int .i32 0,.bool false] 105;have iA:=ab B1;have K1:Hid (aa af w (w.alloc (.cells #[.string ⟨#[]⟩,.int .i64 0,.int .i32 0,.int .i32 0,.bool false] 105))):=(aa.refl af w).alloc _;clear hB hK hT hb B1;go_in;go_wp2_with fail;generalize(w.alloc (.cells #[.string ⟨#[]⟩,.int .i64 0,.int .i32 0,.int .i32 0,.bool false] 105))=w1 at*;refine jW (Cf (by kernel_rfl) (Cd (S:=Zz fb w.heap.size kv v' bg s) _ _ _ _ ?_));have aj:=S1.out w1.drew K1.out.drew;refine ai 0 9 (.pointer (some ⟨fb,0,none⟩)) aj ?_;refine ai 1 10 (.pointer (some ⟨fb,0,none⟩)) aj ?_;refine ai 2 11 (.pointer (some ⟨fb,4,none⟩)) aj ?_;refine ai 3 12 kv aj ?_;refine ai 4 13 (.int .i64 p) aj ?_;refine ai 5 14 (.pointer (some ⟨fb,0,none⟩)) aj ?_;refine ai 6 15 (.pointer (some ⟨fb,0,none⟩)) aj ?_;refine ai 7 16 (.pointer (some ⟨fb,5,none⟩)) aj ?_;refine ai 8 17 (.int .i64 bg) aj ?_;refine ai 9 18 (.int .i64 (p-bg)) aj ?_;refine ai 10 19 (.int .i64 q) aj ?_;refine ai 11 20 (.pointer (some ⟨fb,0,none⟩)) aj ?_;refine ai 12 21 (.pointer (some ⟨fb,0,none⟩)) aj ?_;refine ai 13 22 (.pointer (some ⟨fb,5,none⟩)) aj ?_;refine ai 14 23 (.int .i64 bg) aj ?_;refine ai 15 24 (.int .i64 (q-bg)) aj ?_;refine ai 16 25 v' aj ?_;refine ai 17 26 (.string s) aj ?_;refine ai 18 27 (.int .i64 p) aj ?_;refine ai 19 28 (.pointer (some ⟨fb,0,none⟩)) aj ?_;refine ai 20 29 (.int .i64 p) aj ?_;refine ai 22 31 (.int .i32 bh) aj ?_;simp only[Act.put,Aa,Ad,Ac];refine bN 21 fun K hK=>?_
 go_simp;refine(F.out _ K1.out.drew).mono ?_;rintro e w2 ⟨rfl,k2⟩;dsimp only;have oy:aa af w w2:=K1.out.drew.trans k2;have kM:=S1.out w2 oy;refine hK.out _ _ kM (fun _=>?_);clear hK K;refine ai 23 32 (.agg #[.string s,.int .i64 p,.int .i32 av,.int .i32 bh,.bool false]) kM ?_;have B2:=iA.out.kept ((aa.refl af w1).drew.trans k2) (fun hx=>hx);have c0:w2.cell? ⟨w.heap.size,0,none⟩=some (.string ⟨#[]⟩):=B2.cell 0;have c1:w2.cell? ⟨w.heap.size,1,none⟩=some (.int .i64 0):=B2.cell 1;have c2:w2.cell? ⟨w.heap.size,2,none⟩=some (.int .i32 0):=B2.cell 2;have c3:w2.cell? ⟨w.heap.size,3,none⟩=some (.int .i32 0):=B2.cell 3;have c4:w2.cell? ⟨w.heap.size,4,none⟩=some (.bool false):=B2.cell 4;have f0:w2.frozen? ⟨w.heap.size,0,none⟩=false:=B2.frozen 0;have f1:w2.frozen? ⟨w.heap.size,1,none⟩=false:=B2.frozen 1;have f2:w2.frozen? ⟨w.heap.size,2,none⟩=false:=B2.frozen 2;have f3:w2.frozen? ⟨w.heap.size,3,none⟩=false:=B2.frozen 3;have f4:w2.frozen? ⟨w.heap.size,4,none⟩=false:=B2.frozen 4;simp only[Act.put,Aa,Ad,Ac];refine bN 24 fun K hK=>?_
 have K9:aa af w (((((w2.setCell ⟨w.heap.size,0,none⟩ (.string s)).setCell ⟨w.heap.size,1,none⟩ (.int .i64 p)).setCell ⟨w.heap.size,2,none⟩ (.int .i32 av)).setCell ⟨w.heap.size,3,none⟩ (.int .i32 bh)).setCell ⟨w.heap.size,4,none⟩ (.bool false)):=((((oy.setCell (p:=⟨w.heap.size,0,none⟩) (Or.inr (Ab _)) _).setCell (p:=⟨w.heap.size,1,none⟩) (Or.inr (Ab _)) _).setCell (p:=⟨w.heap.size,2,none⟩) (Or.inr (Ab _)) _).setCell (p:=⟨w.heap.size,3,none⟩) (Or.inr (Ab _)) _).setCell (p:=⟨w.heap.size,4,none⟩) (Or.inr (Ab _)) _;have B9:aq (((((w2.setCell ⟨w.heap.size,0,none⟩ (.string s)).setCell ⟨w.heap.size,1,none⟩ (.int .i64 p)).setCell ⟨w.heap.size,2,none⟩ (.int .i32 av)).setCell ⟨w.heap.size,3,none⟩ (.int .i32 bh)).setCell ⟨w.heap.size,4,none⟩ (.bool false)) w.heap.size #[.string s,.int .i64 p,.int .i32 av,.int .i32 bh,.bool false] 105:=((((B2.setCell 0 (.string s)).setCell 1 (.int .i64 p)).setCell 2 (.int .i32 av)).setCell 3 (.int .i32 bh)).setCell 4 (.bool false);have K9:=ab K9;have B9:=ab B9;go_simp;generalize(((((w2.setCell ⟨w.heap.size,0,none⟩ (.string s)).setCell ⟨w.heap.size,1,none⟩ (.int .i64 p)).setCell ⟨w.heap.size,2,none⟩ (.int .i32 av)).setCell ⟨w.heap.size,3,none⟩ (.int .i32 bh)).setCell ⟨w.heap.size,4,none⟩ (.bool false))=w9 at*;have LD:=S1.out w9 K9.out;refine hK.out _ _ LD (fun _=>?_);clear hK K c0 c1 c2 c3 c4 f0 f1 f2 f3 f4;refine At (by kernel_rfl) ?_ _;refine jw ?_;clear S1 aj kM LD F;have c0:w9.cell? ⟨w.heap.size,0,none⟩=some (.string s):=B9.out.cell 0;have c1:w9.cell? ⟨w.heap.size,1,none⟩=some (.int .i64 p):=B9.out.cell 1;have c2:w9.cell? ⟨w.heap.size,2,none⟩=some (.int .i32 av):=B9.out.cell 2;have c3:w9.cell? ⟨w.heap.size,3,none⟩=some (.int .i32 bh):=B9.out.cell 3;have c4:w9.cell? ⟨w.heap.size,4,none⟩=some (.bool false):=B9.out.cell 4;go_simp;go_wp2_with fail;exact Bj (v:=.agg #[.string s,.int .i64 p,.int .i32 av,.int .i32 bh,.bool false]) (by simp[results,results80,go_sem,c0,c1,c2,c3,c4]) rfl ⟨rfl,K9.out⟩
def vQ(c:FC)(K:ByteArray)(p q:Int)(op:Bool):CX:=⟨K.extract (p-c.aB).toNat (q-c.aB).toNat,p,nT c K p,-1,op⟩
def oA(g:FM)(c:FC)(x:CX):List Ev×Nat×Int:=eM (eG g.ms x g.u0 g.G) x.n x.aW x.op 0 c.tl
structure C_(w:World)(fb:Nat)(g:FM)(c:FC)(K:ByteArray)(A:Int)(mt:Bool)(l:List bF)(au fix:Nat->Prop)(x:CX)(v:Value)(lx:List (Ev×Nat))(w':World):Prop where
 cS:mA w' w.heap.size v x (2*g.G) lx
 eq:lx.map (·.1)=(oA g c x).1
 mem:fH w' fb g {c with fr:=x.fr (oA g c x).2.1,tl:=(oA g c x).2.2} K A mt l au fix
 kept:aa (fun i=>i=fb) w w'
def SG(fb b9:Nat)(g:FM)(s:ByteArray)(p av:Int)(op:Bool)(W:World):Prop:=(W.cell? ⟨fb,0,none⟩=some (.slice (some ⟨g.mb,0,none⟩) g.ms.length g.cc)/\W.cell? ⟨fb,1,none⟩=some (.int .i64 (g.u0:Int))/\W.cell? ⟨fb,2,none⟩=some (.int .i64 (g.G:Int)))/\W.cell? ⟨b9,0,none⟩=some (.string s)/\W.cell? ⟨b9,1,none⟩=some (.int .i64 p)/\W.cell? ⟨b9,2,none⟩=some (.int .i32 av)/\W.cell? ⟨b9,3,none⟩=some (.int .i32 (-1))/\W.cell? ⟨b9,4,none⟩=some (.bool op)
theorem acH{op:Bool}(hg:g.Ok)(h:fH w fb g c K A mt l au fix)(h0:0<=c.aB)(h1:c.aB<=p)(Gi:p<=q)(h2:q-c.aB<=K.size)(h3:q<=1000000000000)(h4:K.size<=10000000):
 Calls prog 51 #[.pointer (some ⟨fb,0,none⟩),.int .i64 p,.int .i64 q,.bool op] w fun e w'=>∃v lx,e=.returned v/\C_ w fb g c K A mt l au fix (vQ c K p q op) v lx w':=by
 have H:=ab h;have F1:=ab (aeV (p:=p) (q:=q) (bh:= -1) h.ak (yW h.kp) h.ma.jK h0 h1 Gi h2 h3 (by omega));have aS:(K.extract (p-c.aB).toNat (q-c.aB).toNat).size<=10000000:=by rw[extract_size K _ _ (by omega)];omega
 obtain⟨x,hx⟩:∃x,x=vQ c K p q op:=⟨_,rfl⟩
 have sZ:x.s=K.extract (p-c.aB).toNat (q-c.aB).toNat:=by rw[hx];rfl
 have ug:x.aB=p:=by rw[hx];rfl
 have AY:x.ah=nT c K p:=by rw[hx];rfl
 have yF:x.bh= -1:=by rw[hx];rfl
 have Jd:x.op=op:=by rw[hx];rfl
 rw[<-hx];rw[<-sZ]at aS;rw[<-sZ,<-AY]at F1;have HX:=ab (And.intro sZ (And.intro ug (And.intro AY (And.intro yF Jd))));have qX:=ab aS;obtain⟨s,hs⟩:∃s,s=x.s:=⟨_,rfl⟩
 obtain⟨av,vx⟩:∃av,av=x.ah:=⟨_,rfl⟩
 rw[<-hs,<-vx]at F1;have HS:=ab (And.intro hs vx);clear h hx sZ ug AY yF Jd aS hs vx;go_in;go_wp2_with fail;refine(F1.out).mono ?_;rintro e w1 ⟨rfl,k1⟩;have H1:=ab (H.out.new k1);have K1:=ab k1;clear F1 k1 H;have B9:=aq.new w1 #[.string s,.int .i64 p,.int .i32 av,.int .i32 (-1),.bool op] 105;have k2:aa af w1 (w1.alloc (.cells #[.string s,.int .i64 p,.int .i32 av,.int .i32 (-1),.bool op] 105)):=(aa.refl af w1).alloc _;have H2:=H1.out.new k2;have KX:(w1.alloc (.cells #[.string s,.int .i64 p,.int .i32 av,.int .i32 (-1),.bool op] 105)).cell? ⟨fb,10,none⟩=some (.int .i64 c.fr):=H2.ak.cell 10;have f10:(w1.alloc (.cells #[.string s,.int .i64 p,.int .i32 av,.int .i32 (-1),.bool op] 105)).frozen? ⟨fb,10,none⟩=false:=H2.ak.frozen 10;have az:w1.heap.size≠fb:=by have:=H1.out.ak.lt;omega
 have K3:Hid (aa (fun i=>i=fb) w ((w1.alloc (.cells #[.string s,.int .i64 p,.int .i32 av,.int .i32 (-1),.bool op] 105)).setCell ⟨fb,10,none⟩ (.int .i64 p))):=((K1.out.trans k2).mono (S':=fun i=>i=fb) (fun i hx=>hx.elim)).setCell (p:=⟨fb,10,none⟩) (Or.inl rfl) _;have H3:Hid (fH ((w1.alloc (.cells #[.string s,.int .i64 p,.int .i32 av,.int .i32 (-1),.bool op] 105)).setCell ⟨fb,10,none⟩ (.int .i64 p)) fb g {c with fr:=p} K A mt l au fix):=H2.put ((aa.refl (fun i=>i=fb) _).setCell (p:=⟨fb,10,none⟩) (Or.inl rfl) _) (H2.ak.setCell 10 (.int .i64 p)) ⟨rfl,rfl,rfl,rfl,rfl⟩;have B3:=ab (B9.Ns (p:=⟨fb,10,none⟩) az (.int .i64 p));clear H2 k2 B9 H1;go_wp2_with fail;generalize((w1.alloc (.cells #[.string s,.int .i64 p,.int .i32 av,.int .i32 (-1),.bool op] 105)).setCell ⟨fb,10,none⟩ (.int .i64 p))=w3 at*;clear KX f10
 have S1:Hid (∀W,aa af w3 W->SG fb w1.heap.size g s p av op W):=fun W k=>by
  have a:=H3.out.ak.kept k (fun hx=>hx);have b:=B3.out.kept k (fun hx=>hx);exact⟨⟨(a.cell 0).trans (by show some c.mv=_;rw[H3.out.mv];rfl),(a.cell 1).trans (by show some (Value.int .i64 c.st)=_;rw[H3.out.st]),(a.cell 2).trans (by show some (Value.int .i64 c.G)=_;rw[H3.out.G])⟩,b.cell 0,b.cell 1,b.cell 2,b.cell 3,b.cell 4⟩
 have F2:=XR (w:=w3.drew) (cu:=fb) (co:=10) (cs:=({c with fr:=p}:FC).cells) (ty:=124) (x:=x) (i0:=0) (JI:=c.tl) (T:=eG g.ms x g.u0 g.G) (R:=oA g c x) (H3.out.ma.kept (aa.refl af w3).drew) hg.ft hg.q hg.bT qX.out (by rw[HX.out.2.1];omega) hg.u0 hg.G (fun i _=>rfl) (wh hg.ft x hg.u0 g.G)
  (by
    have e0:x.fr 0=p:=by rw[CX.Iz (Am _)];unfold CX.aW;rw[sC,HX.out.2.1];simp
    rw[FC.wN,e0];exact H3.out.ak) (by show 10+1<17;decide) (Am _) rfl
  ⟨fun e=>(H3.out.mZ fb (Or.inr (Or.inl (Or.inl e)))).1 rfl,fun e=>(H3.out.mZ fb (Or.inr (Or.inl (Or.inr e)))).1 rfl,fun e=>(H3.out.mZ fb (Or.inr (Or.inr (Or.inl e)))).1 rfl,fun e=>(H3.out.mZ fb (Or.inr (Or.inr (Or.inr e)))).1 rfl⟩
 rw[HX.out.2.1,HX.out.2.2.2.1,HX.out.2.2.2.2,<-HS.out.1,<-HS.out.2]at F2;have F2:=ab F2;refine jW (Cf (by kernel_rfl) (Cd (S:=SG fb w1.heap.size g s p av op) _ _ _ _ ?_));have aj:=S1.out w3.drew (aa.refl _ _).drew;refine ai 0 21 (.pointer (some ⟨fb,0,none⟩)) aj ?_;refine ai 1 22 (.pointer (some ⟨fb,0,none⟩)) aj ?_;refine ai 2 23 (.pointer (some ⟨fb,0,none⟩)) aj ?_;refine ai 3 24 (.agg #[.slice (some ⟨g.mb,0,none⟩) g.ms.length g.cc,.int .i64 (g.u0:Int),.int .i64 (g.G:Int)]) aj ?_;refine ai 4 25 (.agg #[.string s,.int .i64 p,.int .i32 av,.int .i32 (-1),.bool op]) aj ?_;refine ai 5 26 (.pointer (some ⟨fb,0,none⟩)) aj ?_;refine ai 6 27 (.pointer (some ⟨fb,0,none⟩)) aj ?_;refine ai 7 28 (.pointer (some ⟨fb,10,none⟩)) aj ?_;simp only[Act.put,Aa,Ad,Ac];refine bN 8 fun K hK=>?_
 go_simp;refine(F2.out).mono ?_;rintro e w4 ⟨v,lx,rfl,hE,hl,hB,k4⟩;dsimp only;have BA:aa (fun i=>i=fb) w3 w4:=((aa.refl _ w3).drew).trans k4;have H4:fH w4 fb g {c with fr:=x.fr (oA g c x).2.1,tl:=(oA g c x).2.2} _ A mt l au fix:=H3.out.put BA hB ⟨rfl,rfl,rfl,rfl,rfl⟩;have b4:=B3.out.kept BA (fun e=>az e);have cw:SG fb w1.heap.size g s p av op w4:=⟨⟨(H4.ak.cell 0).trans (by show some c.mv=_;rw[H3.out.mv];rfl),(H4.ak.cell 1).trans (by show some (Value.int .i64 c.st)=_;rw[H3.out.st]),(H4.ak.cell 2).trans (by show some (Value.int .i64 c.G)=_;rw[H3.out.G])⟩,b4.cell 0,b4.cell 1,b4.cell 2,b4.cell 3,b4.cell 4⟩;have qG:=K3.out.size;have ax:=ab (show C_ w fb g c _ A mt l au fix x v lx w4 from⟨⟨xy hE.row qG,fun r hr=>⟨Be qG (hE.fE r hr).1,(hE.fE r hr).2⟩⟩,hl,H4,K3.out.trans BA⟩);refine hK.out _ _ cw (fun _=>?_);clear hK K;refine ai 9 8 v cw ?_;simp only[Act.put,Aa,Ad,Ac];refine At (by kernel_rfl) ?_ _;refine jw ?_;clear F2 S1 aj cw hE hl hB k4 BA H4 b4;go_simp;go_wp2_with fail;go_ret;exact⟨v,lx,rfl,ax.out⟩
def FC.jg(c:FC):FC:={c with pl:=c.fr,ma:=0,mz:=0,md:=false}
def R_(fb:Nat)(T:TypeId)(xv:Value)(fr:Int)(W:World):Prop:=W.cell? ⟨fb,3,none⟩=some (.iface T xv)/\W.cell? ⟨fb,7,none⟩=some (.int .i64 fr)
theorem ah_(h:fH w fb g c K A mt l au fix)(h0:0<=c.aB)(h1:c.aB<=c.fr)(h2:c.fr-c.aB<=K.size)(h3:c.fr<=1000000000000)(h4:K.size<=1000000000000):
 Calls prog 78 #[.pointer (some ⟨fb,0,none⟩)] w fun e w'=>e=.returned (.tuple #[])/\∃cJ,fH w' fb g c.jg K (nT c K c.fr) false [] cJ fix/\cF (fun i=>au i\/i=fb) cJ w w':=by
 have H:=ab h;have p10:w.cell? ⟨fb,10,none⟩=some (.int .i64 c.fr):=h.ak.cell 10;have p7:w.cell? ⟨fb,7,none⟩=some (.int .i64 c.pl):=h.ak.cell 7;have QT:w.cell? ⟨fb,12,none⟩=some (.int .i64 c.ma):=h.ak.cell 12;have QU:w.cell? ⟨fb,13,none⟩=some (.int .i64 c.mz):=h.ak.cell 13;have p14:w.cell? ⟨fb,14,none⟩=some (.bool c.md):=h.ak.cell 14;have f7:w.frozen? ⟨fb,7,none⟩=false:=h.ak.frozen 7;have f12:w.frozen? ⟨fb,12,none⟩=false:=h.ak.frozen 12;have f13:w.frozen? ⟨fb,13,none⟩=false:=h.ak.frozen 13;have f14:w.frozen? ⟨fb,14,none⟩=false:=h.ak.frozen 14;have kB:aa (fun i=>i=fb) w ((((w.setCell ⟨fb,7,none⟩ (.int .i64 c.fr)).setCell ⟨fb,12,none⟩ (.int .i64 0)).setCell ⟨fb,13,none⟩ (.int .i64 0)).setCell ⟨fb,14,none⟩ (.bool false)):=((((aa.refl (fun i=>i=fb) w).setCell (p:=⟨fb,7,none⟩) (Or.inl rfl) _).setCell (p:=⟨fb,12,none⟩) (Or.inl rfl) _).setCell (p:=⟨fb,13,none⟩) (Or.inl rfl) _).setCell (p:=⟨fb,14,none⟩) (Or.inl rfl) _;have H1:Hid (fH ((((w.setCell ⟨fb,7,none⟩ (.int .i64 c.fr)).setCell ⟨fb,12,none⟩ (.int .i64 0)).setCell ⟨fb,13,none⟩ (.int .i64 0)).setCell ⟨fb,14,none⟩ (.bool false)) fb g c.jg K A mt l au fix):=h.put kB ((((h.ak.setCell 7 (.int .i64 c.fr)).setCell 12 (.int .i64 0)).setCell 13 (.int .i64 0)).setCell 14 (.bool false)) ⟨rfl,rfl,rfl,rfl,rfl⟩;have KB:=ab kB;clear h kB H;go_in;go_wp2_with fail;generalize((((w.setCell ⟨fb,7,none⟩ (.int .i64 c.fr)).setCell ⟨fb,12,none⟩ (.int .i64 0)).setCell ⟨fb,13,none⟩ (.int .i64 0)).setCell ⟨fb,14,none⟩ (.bool false))=w1 at*;clear p10 p7 QT QU p14 f7 f12 f13 f14;have F1:=ab (Td (pl:=c.fr) (H1.out.new (aa.refl _ w1).drew).ak (yW (H1.out.new (aa.refl _ w1).drew).kp) (H1.out.new (aa.refl _ w1).drew).ma.jK h0 h1 h2 h3 h4);rw[show nT c.jg K c.fr=nT c K c.fr from rfl]at F1;have hex:∃T xv,c.ev=.iface T xv:=by obtain⟨T,xv,fn,ke,_⟩:=H1.out.en.first;exact⟨T,xv,ke⟩
 obtain⟨T,xv,ke⟩:=hex
 have S1:Hid (∀W,aa af w1 W->R_ fb T xv c.fr W):=fun W k=>by
  have:=H1.out.ak.kept k (fun hx=>hx);exact⟨by rw[<-ke];exact this.cell 3,this.cell 7⟩
 refine jW (Cf (by kernel_rfl) (Cd (S:=R_ fb T xv c.fr) _ _ _ _ ?_));have aj:=S1.out w1.drew (aa.refl _ _).drew;refine ai 0 14 (.pointer (some ⟨fb,0,none⟩)) aj ?_;refine ai 1 15 (.pointer (some ⟨fb,0,none⟩)) aj ?_;refine ai 2 16 (.pointer (some ⟨fb,3,none⟩)) aj ?_;refine ai 3 17 (.iface T xv) aj ?_;refine ai 4 18 (.pointer (some ⟨fb,0,none⟩)) aj ?_;refine ai 5 19 (.pointer (some ⟨fb,0,none⟩)) aj ?_;refine ai 6 20 (.pointer (some ⟨fb,0,none⟩)) aj ?_;refine ai 7 21 (.pointer (some ⟨fb,7,none⟩)) aj ?_;refine ai 8 22 (.int .i64 c.fr) aj ?_;refine ai 10 24 (.iface T xv) aj ?_;refine ai 11 25 (.iface T xv) aj ?_;simp only[Act.put,Aa,Ad,Ac];refine bN 9 fun K hK=>?_
 go_simp;refine(F1.out).mono ?_;rintro e w2 ⟨rfl,k2⟩;dsimp only;have oy:aa af w1 w2:=((aa.refl af w1).drew).trans k2;have kM:=S1.out w2 oy;refine hK.out _ _ kM (fun _=>?_);clear hK K;have H2:=ab (H1.out.new oy);have K2:Hid (aa (fun i=>i=fb) w w2):=KB.out.bV oy (fun i _ hx=>hx.elim);clear F1 S1 aj oy k2 H1 KB;obtain⟨T',xv',fn,UL,iF,LN,F2⟩:=H2.out.en.begin (c:=nT c K c.fr);have hT:T'=T/\xv'=xv:=by have:=UL.symm.trans ke;simp at this;exact this
 obtain⟨rfl,rfl⟩:=hT;have F2:=ab F2;obtain⟨av,vx⟩:∃av,av=nT c K c.fr:=⟨_,rfl⟩
 rw[<-vx]at F2⊢;have Sc:=ab vx;have Sk:=ab UL;clear ke UL vx;refine bN 12 fun K hK=>?_
 go_simp;refine(F2.out).mono ?_;rintro e w3 ⟨rfl,GX,hE3,Uc⟩;dsimp only;have H3:=ab (H2.out.rp hE3 Uc);have rA:R_ fb T' xv' c.fr w3:=⟨by rw[<-Sk.out];exact H3.out.ak.cell 3,H3.out.ak.cell 7⟩;refine hK.out _ _ rA (fun _=>?_);clear hK K;refine At (by kernel_rfl) ?_ _;refine jw ?_;go_end0;refine⟨rfl,GX,by rw[<-Sc.out];exact H3.out,⟨?_,?_⟩⟩
 ·exact(K2.out.mono (fun i hi=>Or.inr hi)).bV Uc.kept (fun i _ hx=>Or.inl hx)
 ·intro i hi;rcases Uc.ak i hi with h|h
  ·exact Or.inl (Or.inl h)
  ·exact Or.inr (Be K2.out.size h)
theorem FM.uu(h:jb w g.lo g.hi g.mb g.cc g.vs g.ms)(hi:g.cI i):i<w.heap.size:=by
 have h1:=h.le;have h2:=h.jK.lt;have h3:=h.ic.lt;rcases hi with(hi|hi)|(hi|hi)
 ·rw[hi];exact h3
 ·omega
 ·rw[hi];exact h2.1
 ·rw[hi];exact h2.2
theorem fH.aeB{w':World}{c':FC}{K':ByteArray}(h:fH w fb g c K A mt l au fix)(k:aa (fun i=>i=fb\/c.kv.ownBlock=some i) w w')(hb:aq w' fb c'.cells 124)(e:c'.mv=c.mv/\c'.st=c.st/\c'.G=c.G/\c'.ev=c.ev)
 (rH:w'.ownsRow 0 5 1 c'.kv K'.size (jQ K'))(iT:∀i,c'.kv.ownBlock=some i->c.kv.ownBlock=some i\/w.heap.size<=i):fH w' fb g c' K' A mt l au fix where
 ak:=hb
 ma:=h.ma.MG k (fun i hi hm=>hi.elim (fun hi=>(h.mZ i (Or.inr hm)).1 hi) (fun hi=>(h.mZ i (Or.inr hm)).2 hi))
 mv:=e.1.trans h.mv
 st:=e.2.1.trans h.st
 G:=e.2.2.1.trans h.G
 en:=by rw[e.2.2.2];exact h.en.kept k (fun i hi=>⟨fun ho=>hi.elim (fun hi=>(h.lj i ho).1 hi) (fun hi=>(h.lj i ho).2.1 hi),fun hf=>hi.elim (fun hi=>(h.mZ i (Or.inl hf)).1 hi) (fun hi=>(h.mZ i (Or.inl hf)).2 hi)⟩)
 kp:=rH
 lj i hi:=⟨(h.lj i hi).1,fun hx=>(iT i hx).elim (h.lj i hi).2.1 (fun hn=>by have:=h.en.lt.1 i hi;omega),(h.lj i hi).2.2⟩
 mZ i hi:=⟨(h.mZ i hi).1,fun hx=>(iT i hx).elim (h.mZ i hi).2 (fun hn=>by
  have:i<w.heap.size:=hi.elim (h.en.lt.2 i) (fun hm=>FM.uu h.ma hm);omega)⟩
 tI:=fun hx=>(iT fb hx).elim h.tI (fun hn=>by have:=h.ak.lt;omega)
theorem ahn(h:fH w fb g c K A mt l au fix)(h1:q<=c.aB):
 Calls prog 79 #[.pointer (some ⟨fb,0,none⟩),.int .i64 q] w fun e w'=>e=.returned (.tuple #[])/\w'=w:=by
 have p5:w.cell? ⟨fb,5,none⟩=some (.int .i64 c.aB):=h.ak.cell 5;generalize c.aB=bg at*;clear h;have gP:¬bg<q:=by omega
 go_in
 go_wp2_with fail
 go_end0
 exact⟨rfl,rfl⟩
theorem aho(h:fH w fb g c K A mt l au fix)(h0:0<=c.aB)(h1:c.aB<q)(h2:q-c.aB<=K.size)(h3:q<=1000000000000)(h4:K.size<=100000000000):
 Calls prog 79 #[.pointer (some ⟨fb,0,none⟩),.int .i64 q] w fun e w'=>e=.returned (.tuple #[])/\∃v',fH w' fb g {c with ah:=nT c K q,kv:=v',aB:=q} (K.extract (q-c.aB).toNat K.size) A mt l au fix/\aa (fun i=>i=fb) w w'/\∀i,v'.ownBlock=some i->w.heap.size<=i:=by
 have H:=ab h;have p5:w.cell? ⟨fb,5,none⟩=some (.int .i64 c.aB):=h.ak.cell 5;have F1:=ab (Td (pl:=q) h.ak (yW h.kp) h.ma.jK h0 (by omega) h2 h3 (by omega));clear h;go_in;go_wp2_with fail;refine(F1.out).mono ?_;rintro e w1 ⟨rfl,k1⟩;have H1:=ab (H.out.new k1);have K1:=ab k1;obtain⟨av,vx⟩:∃av,av=nT c K q:=⟨_,rfl⟩
 rw[<-vx];have Sc:=ab vx;have p6:w1.cell? ⟨fb,6,none⟩=some (.int .i32 c.ah):=H1.out.ak.cell 6;have f6:w1.frozen? ⟨fb,6,none⟩=false:=H1.out.ak.frozen 6;have B2:=ab (show aq (w1.setCell ⟨fb,6,none⟩ (.int .i32 av)) fb ({c with ah:=av}:FC).cells 124 from H1.out.ak.setCell 6 (.int .i32 av));have K2:Hid (aa (fun i=>i=fb) w1 (w1.setCell ⟨fb,6,none⟩ (.int .i32 av))):=(aa.refl (fun i=>i=fb) w1).setCell (p:=⟨fb,6,none⟩) (Or.inl rfl) _;have F2:=ab (Qz (c:={c with ah:=av}) (pl:=q) B2.out ((yW H1.out.kp).kept K2.out (fun i hi hx=>H1.out.tI (by rw[<-hx];exact hi))) h0 (show c.aB<=q by omega) h2 h3);have h12:=K2.out.size;clear F1 k1 vx p5 H;go_wp2_with fail;generalize w1.setCell ⟨fb,6,none⟩ (.int .i32 av)=w2 at*;clear p6 f6;refine(F2.out).mono ?_;rintro e w3 ⟨⟨v,rfl,sN⟩,n,rfl⟩;have aS:(K.extract (q-c.aB).toNat K.size).size<=140737488355328:=by rw[extract_size K _ _ (Ab _)];omega
 have F3:=ab (agS (w:=w2.drewN n) (sN.new ((aa.refl _ w2).drewN n)) aS);clear sN aS F2;go_wp2_with fail;refine(F3.out).mono ?_;rintro e w4 ⟨v',rfl,dL,k4⟩;have ME:aa af w2 w4:=((aa.refl af w2).drewN n).trans k4;have B4:=B2.out.kept ME (fun hx=>hx);have K14:=ab (K2.out.bV ME (fun i _ hx=>hx.elim));have HN:Hid (∀i,v'.ownBlock=some i->w2.heap.size<=i):=fun i hi=>(dw dL hi).1
 have abW:w4.ownsRow 0 5 1 v' (K.extract (q-c.aB).toNat K.size).size (jQ (K.extract (q-c.aB).toNat K.size)):=xy dL (Am _);have p4:w4.cell? ⟨fb,4,none⟩=some c.kv:=B4.cell 4;have f4:w4.frozen? ⟨fb,4,none⟩=false:=B4.frozen 4;have B5:=B4.setCell 4 v';have q5:(w4.setCell ⟨fb,4,none⟩ v').cell? ⟨fb,5,none⟩=some (.int .i64 c.aB):=B5.cell 5;have f5:(w4.setCell ⟨fb,4,none⟩ v').frozen? ⟨fb,5,none⟩=false:=B5.frozen 5;have B6:=ab (show aq ((w4.setCell ⟨fb,4,none⟩ v').setCell ⟨fb,5,none⟩ (.int .i64 q)) fb ({c with ah:=av,kv:=v',aB:=q}:FC).cells 124 from B5.setCell 5 (.int .i64 q));have HR:=ab abW;obtain⟨ao,nv,cv,Gn⟩:∃ao nv cv,v'=.slice ao nv cv:=by obtain⟨ao,cv,h⟩:=cA dL;exact⟨ao,_,cv,h⟩
 clear F3 B2 K2 dL abW k4 ME B4 B5;subst Gn;go_wp2_with fail;go_end0;have kk:aa (fun i=>i=fb) w1 ((w4.setCell ⟨fb,4,none⟩ (.slice ao nv cv)).setCell ⟨fb,5,none⟩ (.int .i64 q)):=(K14.out.setCell (p:=⟨fb,4,none⟩) (Or.inl rfl) _).setCell (p:=⟨fb,5,none⟩) (Or.inl rfl) _;have cR:=K1.out.size;refine⟨rfl,_,?_,(K1.out.mono (fun i hx=>hx.elim)).bV kk (fun i _ hx=>hx),fun i hi=>by have:=HN.out i hi;omega⟩;rw[<-Sc.out];refine H1.out.aeB (kk.mono (fun i hi=>Or.inl hi)) B6.out ⟨rfl,rfl,rfl,rfl⟩ ?_ (fun i hi=>Or.inr (by have:=HN.out i hi;omega));refine bR HR.out ((((aa.refl (fun i=>i=fb) w4).setCell (p:=⟨fb,4,none⟩) (Or.inl rfl) _).setCell (p:=⟨fb,5,none⟩) (Or.inl rfl) _)) (fun b hb hx=>?_);have:=HN.out b hb;have:=H1.out.ak.lt;omega
theorem aof(hg:g.Ok)(h:fH w fb g c K A mt l au fix)(h0:0<=c.aB)(h1:c.aB<=c.ma)(Gi:c.ma<=c.re)(h2:c.re-c.aB<=K.size)(h3:c.re<=1000000000000)(h4:K.size<=10000000)(hz:0<=c.mz/\c.mz<=1000000000000)(hp:0<=c.pl/\c.pl<=1000000000000)
 (ha:c.ag=true)(hf:32<c.pl-c.mz):
 Calls prog 77 #[.pointer (some ⟨fb,0,none⟩)] w fun e w'=>∃v lx,e=.returned v/\C_ w fb g c K A mt l au fix (vQ c K c.ma c.re true) v lx w':=by
 have QT:w.cell? ⟨fb,12,none⟩=some (.int .i64 c.ma):=h.ak.cell 12;have QU:w.cell? ⟨fb,13,none⟩=some (.int .i64 c.mz):=h.ak.cell 13;have p9:w.cell? ⟨fb,9,none⟩=some (.bool true):=(h.ak.cell 9).trans (by show some (Value.bool c.ag)=_;rw[ha]);have p7:w.cell? ⟨fb,7,none⟩=some (.int .i64 c.pl):=h.ak.cell 7;have p8:w.cell? ⟨fb,8,none⟩=some (.int .i64 c.re):=h.ak.cell 8;have rO:IntKind.i64.wrap (c.pl-c.mz)=c.pl-c.mz:=zm (by omega) (by omega);have F:=ab fun(n:Nat)=>acH (op:=true) (w:=w.drewN n) hg (h.new ((aa.refl af w).drewN n)) h0 h1 Gi h2 h3 h4
 have ax:Hid (∀n v lx w',C_ (w.drewN n) fb g c K A mt l au fix (vQ c K c.ma c.re true) v lx w'->C_ w fb g c K A mt l au fix (vQ c K c.ma c.re true) v lx w'):=fun n v lx w' hL=>⟨hL.cS,hL.eq,hL.mem,((aa.refl _ w).drewN n).trans hL.kept⟩
 clear h ha h1 Gi h2 h3 h4 h0;go_in;go_wp2_with fail;go_quiet (fail);go_wp2_with fail;refine(F.out nq).mono ?_;rintro e w1 ⟨v,lx,rfl,hL⟩;have HL:=ab (ax.out _ _ _ _ hL);clear hL F ax;go_wp2_with fail;go_ret;exact⟨v,lx,rfl,HL.out⟩
theorem fH.lt(h:fH w fb g c K A mt l au fix)(hi:FO fb c au i\/fix i\/g.cI i):i<w.heap.size:=by
 rcases hi with(hi|hi|hi)|hi|hi
 ·exact h.en.lt.1 i hi
 ·rw[hi];exact h.ak.lt
 ·exact(dw h.kp hi).2
 ·exact h.en.lt.2 i hi
 ·exact FM.uu h.ma hi
def RC(c:FC)(K:ByteArray)(bh:Int):CX:=⟨K.extract (c.ma-c.aB).toNat (c.mz-c.aB).toNat,c.ma,nT c K c.ma,bh,false⟩
def FC.told(c:FC)(n:Int):FC:={c with fr:=if c.ma=c.mz then c.mz+n else c.mz,tl:=c.mz}
def FC.Jg(c:FC):Bool:=!(c.ma==c.mz&&c.mz==c.tl)
structure TlP(w:World)(fb:Nat)(g:FM)(c:FC)(K:ByteArray)(A:Int)(mt:Bool)(l:List bF)(au fix:Nat->Prop)(n:Int)(gs:List Int)(v:Value)(w':World):Prop where
 mem:fH w' fb g (c.told n) K A mt l au fix
 kept:aa (fun i=>i=fb) w w'
 no:c.Jg=false->v=.slice none 0 0
 yes:c.Jg=true->∃b gv,v=.slice (some ⟨b,0,none⟩) 1 1/\w.heap.size<=b/\aq w' b #[.int .i64 c.ma,.int .i64 c.mz,gv,.string (K.extract (c.ma-c.aB).toNat (c.mz-c.aB).toNat)] 46/\uG w' (fun i=>w.heap.size<=i) gv gs
def ZF(fb:Nat)(kv v':Value)(bg:Int)(s:ByteArray)(W:World):Prop:=(W.cell? ⟨fb,4,none⟩=some kv/\W.cell? ⟨fb,5,none⟩=some (.int .i64 bg))/\(convert 42 9 v').run prog W=.ok (.string s) W
def SY(fb:Nat)(g:FM)(W:World):Prop:=W.cell? ⟨fb,0,none⟩=some (.slice (some ⟨g.mb,0,none⟩) g.ms.length g.cc)/\W.cell? ⟨fb,1,none⟩=some (.int .i64 (g.u0:Int))/\W.cell? ⟨fb,2,none⟩=some (.int .i64 (g.G:Int))
theorem aog{d:Nat×Nat}{j:Nat}{gs:List Int}(hg:g.Ok)(h:fH w fb g c K A mt l au fix)(h0:0<=c.aB)(h1:c.aB<=c.ma)(Gi:c.ma<=c.mz)(h2:c.mz-c.aB<=K.size)(h3:c.mz<=1000000000000)(h4:K.size<=10000000)(hp:0<=c.pl/\c.pl<=1000000000000)
 (hn:¬(c.ag=true/\32<c.pl-c.mz))(hd:Lib.decodeGo (K.extract (c.mz-c.aB).toNat K.size)=d)(hw:d.2<=4)
 (hR:cW g.ms (RC c K d.1) (g.u0:Int) 0 (gH g.G)=some (j,gs))(kR:gs.length=2*g.G):
 Calls prog 77 #[.pointer (some ⟨fb,0,none⟩)] w fun e w'=>∃v,e=.returned v/\TlP w fb g c K A mt l au fix d.2 gs v w':=by
 have H:=ab h;have QT:w.cell? ⟨fb,12,none⟩=some (.int .i64 c.ma):=h.ak.cell 12;have QU:w.cell? ⟨fb,13,none⟩=some (.int .i64 c.mz):=h.ak.cell 13;have p9:w.cell? ⟨fb,9,none⟩=some (.bool c.ag):=h.ak.cell 9;have p7:w.cell? ⟨fb,7,none⟩=some (.int .i64 c.pl):=h.ak.cell 7;have rO:IntKind.i64.wrap (c.pl-c.mz)=c.pl-c.mz:=zm (by omega) (by omega)
 have iD:(c.ag=false/\True)\/(c.ag=true/\¬32<c.pl-c.mz):=by
  cases Pw:c.ag with
  |false=>exact Or.inl ⟨rfl,trivial⟩
  |true=>exact Or.inr ⟨rfl,fun hx=>hn ⟨Pw,hx⟩⟩
 rcases iD with⟨Pw,rJ⟩|⟨Pw,rJ⟩
 all_goals
  rw[Pw]at p9;have HR:=ab hR;clear h hR;go_in;go_wp2_with fail;go_quiet (fail);have H1:=ab (H.out.new ((aa.refl _ w).drewN nq));have K1:Hid (aa af w (w.drewN nq)):=(aa.refl _ w).drewN nq;have q9:(w.drewN nq).cell? ⟨fb,9,none⟩=some (.bool _):=p9;have q7:(w.drewN nq).cell? ⟨fb,7,none⟩=some (.int .i64 c.pl):=p7;generalize w.drewN nq=w1 at*;clear QT QU p9 p7 H;have F1:=ab (Qz (pl:=c.mz) H1.out.ak (yW H1.out.kp) h0 (by omega) h2 h3);go_wp2_with fail;refine(F1.out).mono ?_;rintro e w2 ⟨⟨v,rfl,sN⟩,n,rfl⟩;have F2:=ab (aat (w:=w1.drewN n) (sN.new ((aa.refl _ w1).drewN n)) (H1.out.ma.jK.iU ((aa.refl _ w1).drewN n)));rw[hd]at F2;clear sN F1 q9 q7;go_wp2_with fail;refine(F2.out).mono ?_;rintro e w3 ⟨rfl,k3⟩;have Gy:=((aa.refl af w1).drewN n).trans k3;have H3:=ab (H1.out.new Gy);have K3:=ab (K1.out.trans Gy);clear F2 k3 Gy H1 K1;have F3:=adX w3 fb 10 c.cells 124 c.fr c.tl c.ma c.mz (d.2:Int) (by rw[FC.wN];exact H3.out.ak) (by show 10+1<17;decide) (by omega) (by omega);obtain⟨ie,mK⟩:∃ie,ie=c.Jg:=⟨_,rfl⟩
  rw[show(!(c.ma==c.mz&&c.mz==c.tl))=ie from mK.symm]at F3;have F3:=ab F3;have So:=ab mK;clear mK;go_wp2_with fail;refine(F3.out).mono ?_;rintro e w4 ⟨rfl,k4,hB4⟩;have H4:=ab (show fH w4 fb g (c.told d.2) K A mt l au fix from H3.out.put k4 hB4 ⟨rfl,rfl,rfl,rfl,rfl⟩);have K4:Hid (aa (fun i=>i=fb) w w4):=(K3.out.mono (S':=fun i=>i=fb) (fun i hx=>hx.elim)).trans k4;clear F3 k4 hB4 H3 K3
  cases ie with
  |false=>
   go_wp2_with fail
   go_ret
   exact⟨_,rfl,H4.out,K4.out,fun _=>rfl,fun hx=>absurd (So.out.trans hx) (by decide)⟩
  |true=>
   have fM:=aeY (yW H4.out.kp) (x:=c.ma-c.aB) (y:=c.mz-c.aB) (by omega) (by omega) h2;obtain⟨v',fM,kN,_⟩:=fM;have pO:IntKind.i64.wrap (c.ma-c.aB)=c.ma-c.aB:=zm (by omega) (by omega);have pP:IntKind.i64.wrap (c.mz-c.aB)=c.mz-c.aB:=zm (by omega) (by omega);have oj:(c.told d.2).kv=c.kv:=rfl;have mJ:(c.told d.2).aB=c.aB:=rfl;rw[oj]at fM;obtain⟨s,hs⟩:∃s,s=K.extract (c.ma-c.aB).toNat (c.mz-c.aB).toNat:=⟨_,rfl⟩
   rw[<-hs]at kN;have HS:=ab hs;obtain⟨kv,U1⟩:∃kv,kv=c.kv:=⟨_,rfl⟩
   rw[<-U1]at fM
   have S7:Hid (∀W,aa af w4 W->ZF fb kv v' c.aB s W):=fun W k=>by
    have:=H4.out.ak.kept k (fun hx=>hx);exact⟨⟨by rw[U1];exact this.cell 4,this.cell 5⟩,aam (kN.new k)⟩
   clear oj mJ kN hs U1;go_wp2_with fail;refine jW (Cf (by kernel_rfl) (Cd (S:=ZF fb kv v' c.aB s) _ _ _ _ ?_));have aj:=S7.out w4.drew (aa.refl _ _).drew;refine ai 0 53 (.int .i64 c.ma) aj ?_;refine ai 1 54 (.int .i64 c.mz) aj ?_;refine ai 2 55 (.pointer (some ⟨fb,0,none⟩)) aj ?_;refine ai 3 56 (.pointer (some ⟨fb,0,none⟩)) aj ?_;refine ai 4 57 (.pointer (some ⟨fb,4,none⟩)) aj ?_;refine ai 5 58 kv aj ?_;refine ai 6 59 (.int .i64 c.ma) aj ?_;refine ai 7 60 (.pointer (some ⟨fb,0,none⟩)) aj ?_;refine ai 8 61 (.pointer (some ⟨fb,0,none⟩)) aj ?_;refine ai 9 62 (.pointer (some ⟨fb,5,none⟩)) aj ?_;refine ai 10 63 (.int .i64 c.aB) aj ?_;refine ai 11 64 (.int .i64 (c.ma-c.aB)) aj ?_;refine ai 12 65 (.int .i64 c.mz) aj ?_;refine ai 13 66 (.pointer (some ⟨fb,0,none⟩)) aj ?_;refine ai 14 67 (.pointer (some ⟨fb,0,none⟩)) aj ?_;refine ai 15 68 (.pointer (some ⟨fb,5,none⟩)) aj ?_;refine ai 16 69 (.int .i64 c.aB) aj ?_;refine ai 17 70 (.int .i64 (c.mz-c.aB)) aj ?_;refine ai 18 71 v' aj ?_;refine ai 19 72 (.string s) aj ?_;refine ai 20 73 (.agg #[.int .i64 c.ma,.int .i64 c.mz,.slice none 0 0,.string s]) aj ?_;simp only[Act.put,Aa,Ad,Ac];refine bN 21 fun K hK=>?_
   go_simp;have B5:aq (w4.alloc (.cells #[.int .i64 0,.int .i64 0,.slice none 0 0,.string ⟨#[]⟩] 46)).drew w4.heap.size #[.int .i64 0,.int .i64 0,.slice none 0 0,.string ⟨#[]⟩] 46:=aq.new w4 _ _;have k5:aa af w4 (w4.alloc (.cells #[.int .i64 0,.int .i64 0,.slice none 0 0,.string ⟨#[]⟩] 46)).drew:=((aa.refl af w4).alloc _).drew;refine hK.out _ _ (S7.out _ k5) (fun _=>?_);clear hK K;generalize(w4.alloc (.cells #[.int .i64 0,.int .i64 0,.slice none 0 0,.string ⟨#[]⟩] 46)).drew=w5 at*;have c0:w5.cell? ⟨w4.heap.size,0,none⟩=some (.int .i64 0):=B5.cell 0;have c1:w5.cell? ⟨w4.heap.size,1,none⟩=some (.int .i64 0):=B5.cell 1;have c2:w5.cell? ⟨w4.heap.size,2,none⟩=some (.slice none 0 0):=B5.cell 2;have c3:w5.cell? ⟨w4.heap.size,3,none⟩=some (.string ⟨#[]⟩):=B5.cell 3;have f0:w5.frozen? ⟨w4.heap.size,0,none⟩=false:=B5.frozen 0;have f1:w5.frozen? ⟨w4.heap.size,1,none⟩=false:=B5.frozen 1;have f2:w5.frozen? ⟨w4.heap.size,2,none⟩=false:=B5.frozen 2;have f3:w5.frozen? ⟨w4.heap.size,3,none⟩=false:=B5.frozen 3;have K6:Hid (aa af w4 ((((w5.setCell ⟨w4.heap.size,0,none⟩ (.int .i64 c.ma)).setCell ⟨w4.heap.size,1,none⟩ (.int .i64 c.mz)).setCell ⟨w4.heap.size,2,none⟩ (.slice none 0 0)).setCell ⟨w4.heap.size,3,none⟩ (.string s))):=(((k5.setCell (p:=⟨w4.heap.size,0,none⟩) (Or.inr (Ab _)) _).setCell (p:=⟨w4.heap.size,1,none⟩) (Or.inr (Ab _)) _).setCell (p:=⟨w4.heap.size,2,none⟩) (Or.inr (Ab _)) _).setCell (p:=⟨w4.heap.size,3,none⟩) (Or.inr (Ab _)) _;have B6:Hid (aq ((((w5.setCell ⟨w4.heap.size,0,none⟩ (.int .i64 c.ma)).setCell ⟨w4.heap.size,1,none⟩ (.int .i64 c.mz)).setCell ⟨w4.heap.size,2,none⟩ (.slice none 0 0)).setCell ⟨w4.heap.size,3,none⟩ (.string s)) w4.heap.size #[.int .i64 c.ma,.int .i64 c.mz,.slice none 0 0,.string s] 46):=(((B5.setCell 0 (.int .i64 c.ma)).setCell 1 (.int .i64 c.mz)).setCell 2 (.slice none 0 0)).setCell 3 (.string s);clear B5 k5;refine bN 22 fun K hK=>?_
   go_simp;generalize((((w5.setCell ⟨w4.heap.size,0,none⟩ (.int .i64 c.ma)).setCell ⟨w4.heap.size,1,none⟩ (.int .i64 c.mz)).setCell ⟨w4.heap.size,2,none⟩ (.slice none 0 0)).setCell ⟨w4.heap.size,3,none⟩ (.string s))=w6 at*;refine hK.out _ _ (S7.out _ K6.out) (fun _=>?_);clear hK K c0 c1 c2 c3 f0 f1 f2 f3;refine At (by kernel_rfl) ?_ _;refine jw ?_;clear S7 aj fM pO pP;have H6:=ab (H4.out.new K6.out);have SD:Hid (aa (fun i=>i=fb) w w6):=K4.out.bV K6.out (fun i _ hx=>hx.elim);have pM:=K4.out.size;have ap9:=K6.out.size;have aw:w4.heap.size<w6.heap.size:=B6.out.lt;have CP:Hid (∀i,FO fb (c.told d.2) au i\/fix i\/g.cI i->i<w4.heap.size):=(fun i hi=>H4.out.lt hi);clear H4 K4 K6;have g2:w6.cell? ⟨fb,2,none⟩=some (.int .i64 (g.G:Int)):=(H6.out.ak.cell 2).trans (by show some (Value.int .i64 c.G)=_;rw[show c.G=(g.G:Int)from H6.out.G]);go_simp;by_cases hG:g.G=0
   ·have aiM:Hid (gs=[]):=Aw.1 (by rw[kR,hG]);have hgz:¬(0:Int)<(g.G:Int):=(by omega);have UP:¬0<g.G:=(by omega);have d0:w6.cell? ⟨w4.heap.size,0,none⟩=some (.int .i64 c.ma):=B6.out.cell 0;have d1:w6.cell? ⟨w4.heap.size,1,none⟩=some (.int .i64 c.mz):=B6.out.cell 1;have d2:w6.cell? ⟨w4.heap.size,2,none⟩=some (.slice none 0 0):=B6.out.cell 2;have d3:w6.cell? ⟨w4.heap.size,3,none⟩=some (.string s):=B6.out.cell 3;go_wp2_with fail;go_ret;refine⟨_,rfl,H6.out.new ((aa.refl af w6).alloc _),SD.out.alloc _,fun hx=>absurd (So.out.trans hx) (by decide),fun _=>⟨w6.heap.size,.slice none 0 0,rfl,by omega,?_,Or.inl ⟨rfl,aiM.out⟩⟩⟩;rw[<-HS.out];exact aq.new w6 _ _
   ·have hgz:(0:Int)<(g.G:Int):=(by omega);have UP:0<g.G:=(by omega);go_wp2_with fail;obtain⟨x,hx⟩:∃x,x=RC c K (d.1:Int):=⟨_,rfl⟩
    have sZ:x.s=K.extract (c.ma-c.aB).toNat (c.mz-c.aB).toNat:=by rw[hx];rfl
    have ug:x.aB=c.ma:=by rw[hx];rfl
    have AY:x.ah=nT c K c.ma:=by rw[hx];rfl
    have yF:x.bh=(d.1:Int):=by rw[hx];rfl
    have Jd:x.op=false:=by rw[hx];rfl
    have aS:x.s.size<=10000000:=by rw[sZ,extract_size K _ _ (by omega)];omega
    have F8:=aeV (p:=c.ma) (q:=c.mz) (bh:=(d.1:Int)) (H6.out.new (aa.refl af w6).drew).ak (yW (H6.out.new (aa.refl af w6).drew).kp) (H6.out.new (aa.refl af w6).drew).ma.jK h0 h1 Gi h2 h3 (by omega)
    have F8:Calls prog 80 #[.pointer (some ⟨fb,0,none⟩),.int .i64 c.ma,.int .i64 c.mz,.int .i32 (d.1:Int)] w6.drew fun e w'=>e=.returned (.agg #[.string x.s,.int .i64 x.aB,.int .i32 x.ah,.int .i32 x.bh,.bool x.op])/\aa af w6.drew w':=by
     rw[sZ,ug,AY,yF,Jd];exact F8
    have F9:=(ab fun(W:World) (k:aa af w6 W)=>afw (w:=W) (x:=x) (u0:=g.u0) (G2:=g.G) (j:=j) (jC:=gs) (H6.out.ma.kept k) hg.ft hg.q hg.bT aS (by rw[ug];omega) hg.u0 hg.G Jd (by rw[hx];exact HR.out));have F8:=ab F8
    have S9:Hid (∀W,aa af w6 W->SY fb g W):=fun W k=>by
     have a:=H6.out.ak.kept k (fun hx=>hx);exact⟨(a.cell 0).trans (by show some c.mv=_;rw[show c.mv=g.mv from H6.out.mv];rfl),(a.cell 1).trans (by show some (Value.int .i64 c.st)=_;rw[show c.st=(g.u0:Int)from H6.out.st]),(a.cell 2).trans (by show some (Value.int .i64 c.G)=_;rw[show c.G=(g.G:Int)from H6.out.G])⟩
    have HX:=ab hx;clear hx sZ ug AY yF Jd aS HR;refine jW (Cf (by kernel_rfl) (Cd (S:=SY fb g) _ _ _ _ ?_));have aj:=S9.out w6.drew (aa.refl _ _).drew;refine ai 0 80 (.pointer (some ⟨fb,0,none⟩)) aj ?_;refine ai 1 81 (.pointer (some ⟨fb,0,none⟩)) aj ?_;refine ai 2 82 (.pointer (some ⟨fb,0,none⟩)) aj ?_;refine ai 3 83 (.agg #[.slice (some ⟨g.mb,0,none⟩) g.ms.length g.cc,.int .i64 (g.u0:Int),.int .i64 (g.G:Int)]) aj ?_;refine ai 4 84 (.pointer (some ⟨fb,0,none⟩)) aj ?_;refine ai 5 85 (.int .i64 c.ma) aj ?_;refine ai 6 86 (.int .i64 c.mz) aj ?_;refine ai 7 87 (.int .i32 (d.1:Int)) aj ?_;simp only[Act.put,Aa,Ad,Ac];refine bN 8 fun K hK=>?_
    go_simp;refine(F8.out).mono ?_;rintro e w7 ⟨rfl,k7⟩;dsimp only;have lu:aa af w6 w7:=((aa.refl af w6).drew).trans k7;refine hK.out _ _ (S9.out _ lu) (fun _=>?_);clear hK K F8 k7;refine bN 9 fun K hK=>?_
    go_simp;refine(F9.out w7 lu).mono ?_;rintro e w8 ⟨gb,rfl,kO,z8,k8⟩;dsimp only;have MF:=lu.trans k8;have aqa:=MF.size;have wT:=S9.out _ MF;have B8:=B6.out.kept MF (fun hx=>hx);have H8:=H6.out.new MF;have ap_:=lu.size;refine hK.out _ _ wT (fun _=>?_);clear hK K F9;refine ai 10 90 (.pointer (some ⟨w4.heap.size,2,none⟩)) wT ?_;have c2:w8.cell? ⟨w4.heap.size,2,none⟩=some (.slice none 0 0):=B8.cell 2;have f2:w8.frozen? ⟨w4.heap.size,2,none⟩=false:=B8.frozen 2;have K9:Hid (aa (fun i=>i=w4.heap.size) w8 (w8.setCell ⟨w4.heap.size,2,none⟩ (.slice (some ⟨gb,0,none⟩) (2*g.G) (2*g.G)))):=(aa.refl (fun i=>i=w4.heap.size) w8).setCell (p:=⟨w4.heap.size,2,none⟩) (Or.inl rfl) _;have B9:Hid (aq (w8.setCell ⟨w4.heap.size,2,none⟩ (.slice (some ⟨gb,0,none⟩) (2*g.G) (2*g.G))) w4.heap.size #[.int .i64 c.ma,.int .i64 c.mz,.slice (some ⟨gb,0,none⟩) (2*g.G) (2*g.G),.string s] 46):=B8.setCell 2 _;have CG:=ab (And.intro H8 z8);have K08:Hid (aa (fun i=>i=fb) w w8):=SD.out.bV MF (fun i _ hx=>hx.elim);clear B8 H8 z8;simp only[Act.put,Aa,Ad,Ac];refine bN 11 fun K hK=>?_
    go_simp;generalize(w8.setCell ⟨w4.heap.size,2,none⟩ (.slice (some ⟨gb,0,none⟩) (2*g.G) (2*g.G)))=w9 at*
    have H9:=ab (CG.out.1.kept K9.out (fun i hi=>by
     have hi':i=w4.heap.size:=hi;refine⟨fun h=>?_,fun h=>?_,fun h=>?_⟩
     ·have:=CP.out i (Or.inl h);omega
     ·have:=CP.out i (Or.inr (Or.inl h));omega
     ·have:=CP.out i (Or.inr (Or.inr h));omega))
    have aiI:¬gb=w4.heap.size:=(by omega);have BG:=ab (CG.out.2.kept K9.out (fun e=>aiI e));have K09:Hid (aa (fun i=>i=fb) w w9):=K08.out.bV K9.out (fun i hi hx=>by have hx':i=w4.heap.size:=hx;omega);have LD:SY fb g w9:=⟨(H9.out.ak.cell 0).trans (by show some c.mv=_;rw[show c.mv=g.mv from H9.out.mv];rfl),(H9.out.ak.cell 1).trans (by show some (Value.int .i64 c.st)=_;rw[show c.st=(g.u0:Int)from H9.out.st]),(H9.out.ak.cell 2).trans (by show some (Value.int .i64 c.G)=_;rw[show c.G=(g.G:Int)from H9.out.G])⟩;refine hK.out _ _ LD (fun _=>?_);clear hK K c2 f2;refine At (by kernel_rfl) ?_ _;refine jw ?_;have d0:w9.cell? ⟨w4.heap.size,0,none⟩=some (.int .i64 c.ma):=B9.out.cell 0;have d1:w9.cell? ⟨w4.heap.size,1,none⟩=some (.int .i64 c.mz):=B9.out.cell 1;have d2:w9.cell? ⟨w4.heap.size,2,none⟩=some (.slice (some ⟨gb,0,none⟩) (2*g.G) (2*g.G)):=B9.out.cell 2;have d3:w9.cell? ⟨w4.heap.size,3,none⟩=some (.string s):=B9.out.cell 3;have hs9:=K9.out.size;clear S9 aj wT LD H6 B6 SD;go_simp;go_wp2_with fail;go_ret;refine⟨_,rfl,H9.out.new ((aa.refl af w9).alloc _),K09.out.alloc _,fun hx=>absurd (So.out.trans hx) (by decide),fun _=>⟨w9.heap.size,.slice (some ⟨gb,0,none⟩) (2*g.G) (2*g.G),rfl,by omega,?_,Or.inr ⟨gb,by rw[kR],by omega,BG.out.alloc _⟩⟩⟩;rw[<-HS.out];exact aq.new w9 _ _
theorem Tj{f:Nat}(hf:f<=(aF X).length)(h:aN X f<=aN X a):f<=a\/(aF X).length<=a:=by
 rcases Nat.lt_or_ge a f with h1|h1
 ·have:=zJ h1 (show a<(aF X).length by omega);unfold aN at h;omega
 ·exact Or.inl h1
theorem OF(hc:NP X s c)(hf:s.f<=a)(ha:a<=(aF X).length)(hq:bd X a<=s.aX)(hx:s.aX<=X.size):uY X a (nT c (s.K X) (aN X a)):=by
 unfold nT;by_cases e:aN X a=c.aB
 ·rw[if_pos e];have:a=s.f:=OM ha (by omega) (by rw[e,hc.aB]);rw[this];exact hc.jV
 ·rw[if_neg e];have az:s.f≠a:=fun h=>e (by rw[hc.aB,h])
  have hm:=fY X hf;have e1:(aN X a-c.aB).toNat=bd X a-bd X s.f:=by rw[hc.aB];unfold aN;omega
  have e2:(s.K X).extract 0 (aN X a-c.aB).toNat=X.extract (bd X s.f) (bd X a):=by
   rw[e1];unfold bZ.K;rw[O9 X _ _ _ _ (by omega)];congr 1;omega
  rw[e2,afM (by omega) ha];exact uY.mk X a
structure ZC(w:World)(fb:Nat)(g:FM)(X:ByteArray)(s s':bZ)(c:FC)(au fix:Nat->Prop)(w':World)(c':FC)(cJ:Nat->Prop):Prop where
 at_:jz w' fb g X s' c' cJ fix
 dD:cF (FO fb c au) (FO fb c' cJ) w w'
 tl:s'.b=s.b/\s'.told=s.told/\s'.i=s.i+1/\s'.aX=s.aX/\s'.f=s.f/\c'.wn=c.wn
 ty:∃A,s'=s.step g.ms g.u0 X A/\pw g.ms ((aM X).ahead s.i) A
theorem ahY(hg:g.Ok)(h:jz w fb g X s c au fix)(LV:vm (X.extract (bd X s.i) s.aX)=true):
 Calls prog 75 #[.pointer (some ⟨fb,0,none⟩)] w fun e w'=>e=.returned (.tuple #[])/\∃s' c' cJ,ZC w fb g X s s' c au fix w' c' cJ:=by
 obtain⟨A,hM,hA⟩:=h.mem;have hc:=h.fc;have hk:=h.ok;obtain⟨b1,b2,b3,b4,b5,b6⟩:=hk.yg;obtain⟨hi,hn⟩:=aa6 b5 b4 LV;have aS:=hk.sz;have iC:=pE hi;have vB:=tJ hi;obtain⟨r1,r2⟩:=aeh hi b4 hn;have hr:=Rj hi
 have eK:(s.K X).extract (c.pl-c.aB).toNat (s.K X).size=X.extract (bd X s.i) s.aX:=by
  have:(c.pl-c.aB).toNat=bd X s.i-bd X s.f:=by rw[hc.pl,hc.aB];unfold aN;omega
  rw[this];exact bZ.from_ b1 (by omega) b4
 obtain⟨d,hd⟩:∃d,d=Lib.decodeGo (X.extract (bd X s.i) s.aX):=⟨_,rfl⟩
 rw[<-hd]at r1 r2;have hp:c.pl=(bd X s.i:Int):=hc.pl;have hb:c.aB=(bd X s.f:Int):=hc.aB;have Gj:c.re=(bd X s.r:Int):=hc.re;have ajl:((d.1:Nat):Int)=(aM X).bu s.i:=r1;refine(anX (d:=d) hM (by omega) (by omega) (by omega) (by omega) (by omega) (by rw[eK,hd]) (by have:(aM X).bu s.i=(ig X).bu s.i:=rfl;omega) (by omega)).mono ?_;rintro e w' ⟨rfl,cJ,hS⟩;refine⟨rfl,s.step g.ms g.u0 X A,c.step d.2 (aZ g.ms A ((aM X).bu s.i) (jT g.u0 (aN X s.i) s.mt.isSome s.l)),cJ,⟨⟨⟨(aM X).bu s.i,?_,?_⟩,?_,hk.step hg.ft hg.u0 hA hi hn⟩,⟨?_,?_⟩,⟨rfl,rfl,rfl,rfl,rfl,rfl⟩,⟨A,rfl,hA⟩⟩⟩
 ·have hm:=hS.mem;have e1:pU (g.u0:Int) c.pl s.mt.isSome s.l=jT g.u0 (aN X s.i) s.mt.isSome s.l:=by rw[hc.pl];rfl
  rw[e1,ajl]at hm
  have e2:(s.mt.isSome||(aZ g.ms A ((aM X).bu s.i) (jT g.u0 (aN X s.i) s.mt.isSome s.l)).2.isSome)=(s.step g.ms g.u0 X A).mt.isSome:=by
   show _=(uv s.i _ s.mt).isSome
   unfold uv
   cases(aZ g.ms A ((aM X).bu s.i) (jT g.u0 (aN X s.i) s.mt.isSome s.l)).2<;>cases s.mt<;>rfl
  rw[e2]at hm;exact hm
 ·have:(aM X).ahead (s.i+1)=(aM X).bu s.i:=by unfold CX.ahead;rw[if_neg (by omega)];rfl
  show pw g.ms ((aM X).ahead (s.i+1)) ((aM X).bu s.i)
  rw[this];exact fun _ _ _ _ _=>rfl
 ·refine⟨hc.aB,hc.jV,?_,?_,hc.tl,?_,?_,hc.ov⟩
  ·show c.pl+(d.2:Int)=aN X (s.i+1)
   rw[hp];unfold aN;omega
  ·show max c.re (c.pl+(d.2:Int))=aN X (max s.r (s.i+1))
   rw[Gj,hp];rcases Nat.le_total s.r (s.i+1)with h1|h1
   ·have:=fY X h1;rw[Nat.max_eq_right h1];unfold aN;omega
   ·have:=fY X h1;rw[Nat.max_eq_left h1];unfold aN;omega
  ·show(c.md||_)=(uv s.i _ s.mt).isSome
   unfold uv;rw[hc.md]
   cases(aZ g.ms A ((aM X).bu s.i) (jT g.u0 (aN X s.i) s.mt.isSome s.l)).2<;>cases s.mt<;>rfl
  ·intro a j hm;have fR:uv s.i (aZ g.ms A ((aM X).bu s.i) (jT g.u0 (aN X s.i) s.mt.isSome s.l)).2 s.mt=some (a,j):=hm;unfold uv at fR;unfold FC.step
   cases hq:(aZ g.ms A ((aM X).bu s.i) (jT g.u0 (aN X s.i) s.mt.isSome s.l)).2 with
   |none=>
    rw[hq]at fR;simp only[Option.map_none,D9]at fR;exact hc.mt a j fR
   |some q=>
    rw[hq]at fR;simp only[C7,D8,A9,Ck]at fR;refine⟨by simp only[E8,if_true,Da];exact fR.1,?_⟩;simp only[E8,if_true];rw[hc.pl,fR.2]
 ·exact hS.dD.kept.mono (fun i hi=>hi.elim Or.inl (fun h=>Or.inr (Or.inl h)))
 ·intro i hi;rcases hi with hi|hi|hi
  ·rcases hS.dD.ak i hi with(h|h)|h
   ·exact Or.inl (Or.inl h)
   ·exact Or.inl (Or.inr (Or.inl h))
   ·exact Or.inr h
  ·exact Or.inl (Or.inr (Or.inl hi))
  ·exact Or.inl (Or.inr (Or.inr hi))
end Go.Proofs.YtpdnofhackjfdaaGreatDoor
