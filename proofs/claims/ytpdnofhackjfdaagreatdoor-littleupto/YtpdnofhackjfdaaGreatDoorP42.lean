/- Package flow's s -/
import Derived.Test.YtpdnofhackjfdaaGreatDoorP41
set_option linter.all false
set_option maxRecDepth 100000
set_option maxHeartbeats 8000000
namespace Go.Proofs.YtpdnofhackjfdaaGreatDoor
open Go.Proofs.Tryz
open Go.RowKit Go.Maps
variable {mt:Bool} {K X:ByteArray} {c:FC} {g:FM} {s:bR} {A p q:Int} {l:List bG} {a fb i:Nat} {fix au:Nat->Prop} {w:World}
def Zy(fb b8:Nat)(kv v':Value)(bg:Int)(s:ByteArray)(W:World):Prop:=(W.cell? ⟨fb,4,none⟩=some kv/\W.cell? ⟨fb,5,none⟩=some (.int .i64 bg))/\(convert 42 9 v').run prog W=.ok (.string s) W
theorem aeS{bh:Int}(hB:aq w fb c.cells 124)(hK:jN w c.kv K)(hT:jf w)(h0:0<=c.aB)(h1:c.aB<=p)(GF:p<=q)(h2:q-c.aB<=K.size)(h3:q<=1000000000000)(h4:K.size<=1000000000000):
 Calls prog 80 #[.pointer (some ⟨fb,0,none⟩),.int .i64 p,.int .i64 q,.int .i32 bh] w fun e w'=>e=.returned (.agg #[.string (K.extract (p-c.aB).toNat (q-c.aB).toNat),.int .i64 p,.int .i32 (oa c K p),.int .i32 bh,.bool false])/\aa af w w':=by
 obtain⟨v',ib,hb,_⟩:=aeV hK (x:=p-c.aB) (y:=q-c.aB) (by omega) (by omega) h2;have pR:IntKind.i64.wrap (p-c.aB)=p-c.aB:=zo (by omega) (by omega);have pS:IntKind.i64.wrap (q-c.aB)=q-c.aB:=zo (by omega) (by omega);have F:=ab fun(W:World) (k:aa af w W)=>Tm (pl:=p) (hB.kept k (fun hx=>hx)) (hK.new k) (hT.jZ k) h0 h1 (by omega) (by omega) h4
 generalize oa c K p=av at*
 have S1:Hid (∀W,aa af w W->Zy fb w.heap.size c.kv v' c.aB (K.extract (p-c.aB).toNat (q-c.aB).toNat) W):=fun W k=>by
  have:=hB.kept k (fun hx=>hx);exact⟨⟨this.cell 4,this.cell 5⟩,aag (hb.new k)⟩
 generalize K.extract (p-c.aB).toNat (q-c.aB).toNat=s at*
 generalize c.kv=kv at*
 generalize c.aB=bg at*
 have B1:=aq.new w #[.string ⟨#[]⟩,.int .i64 0,.int .i32 0,.int .i32 0,.bool false] 105;have ix:=ab B1;have K1:Hid (aa af w (w.alloc (.cells #[.string ⟨#[]⟩,.int .i64 0,.int .i32 0,.int .i32 0,.bool false] 105))):=(aa.refl af w).alloc _;clear hB hK hT hb B1;go_in;go_wp2_with fail;generalize(w.alloc (.cells #[.string ⟨#[]⟩,.int .i64 0,.int .i32 0,.int .i32 0,.bool false] 105))=w1 at*;refine j9 (Ch (by kernel_rfl) (Cc (S:=Zy fb w.heap.size kv v' bg s) _ _ _ _ ?_));have ak:=S1.o w1.drew K1.o.drew;refine ai 0 9 (.pointer (some ⟨fb,0,none⟩)) ak ?_;refine ai 1 10 (.pointer (some ⟨fb,0,none⟩)) ak ?_;refine ai 2 11 (.pointer (some ⟨fb,4,none⟩)) ak ?_;refine ai 3 12 kv ak ?_;refine ai 4 13 (.int .i64 p) ak ?_;refine ai 5 14 (.pointer (some ⟨fb,0,none⟩)) ak ?_;refine ai 6 15 (.pointer (some ⟨fb,0,none⟩)) ak ?_;refine ai 7 16 (.pointer (some ⟨fb,5,none⟩)) ak ?_;refine ai 8 17 (.int .i64 bg) ak ?_;refine ai 9 18 (.int .i64 (p-bg)) ak ?_;refine ai 10 19 (.int .i64 q) ak ?_;refine ai 11 20 (.pointer (some ⟨fb,0,none⟩)) ak ?_;refine ai 12 21 (.pointer (some ⟨fb,0,none⟩)) ak ?_;refine ai 13 22 (.pointer (some ⟨fb,5,none⟩)) ak ?_;refine ai 14 23 (.int .i64 bg) ak ?_;refine ai 15 24 (.int .i64 (q-bg)) ak ?_;refine ai 16 25 v' ak ?_;refine ai 17 26 (.string s) ak ?_;refine ai 18 27 (.int .i64 p) ak ?_;refine ai 19 28 (.pointer (some ⟨fb,0,none⟩)) ak ?_;refine ai 20 29 (.int .i64 p) ak ?_;refine ai 22 31 (.int .i32 bh) ak ?_;simp only[Act.put,Aa,Ad,Ac];refine bQ 21 fun K hK=>?_
 go_simp;refine(F.o _ K1.o.drew).mono ?_;rintro e w2 ⟨rfl,k2⟩;dsimp only;have td:aa af w w2:=K1.o.drew.trans k2;have kR:=S1.o w2 td;refine hK.o _ _ kR (fun _=>?_);clear hK K;refine ai 23 32 (.agg #[.string s,.int .i64 p,.int .i32 av,.int .i32 bh,.bool false]) kR ?_;have B2:=ix.o.kept ((aa.refl af w1).drew.trans k2) (fun hx=>hx);have c0:w2.cell? ⟨w.heap.size,0,none⟩=some (.string ⟨#[]⟩):=B2.cell 0;have c1:w2.cell? ⟨w.heap.size,1,none⟩=some (.int .i64 0):=B2.cell 1;have c2:w2.cell? ⟨w.heap.size,2,none⟩=some (.int .i32 0):=B2.cell 2;have c3:w2.cell? ⟨w.heap.size,3,none⟩=some (.int .i32 0):=B2.cell 3;have c4:w2.cell? ⟨w.heap.size,4,none⟩=some (.bool false):=B2.cell 4;have f0:w2.frozen? ⟨w.heap.size,0,none⟩=false:=B2.frozen 0;have f1:w2.frozen? ⟨w.heap.size,1,none⟩=false:=B2.frozen 1;have f2:w2.frozen? ⟨w.heap.size,2,none⟩=false:=B2.frozen 2;have f3:w2.frozen? ⟨w.heap.size,3,none⟩=false:=B2.frozen 3;have f4:w2.frozen? ⟨w.heap.size,4,none⟩=false:=B2.frozen 4;simp only[Act.put,Aa,Ad,Ac];refine bQ 24 fun K hK=>?_
 have K9:aa af w (((((w2.setCell ⟨w.heap.size,0,none⟩ (.string s)).setCell ⟨w.heap.size,1,none⟩ (.int .i64 p)).setCell ⟨w.heap.size,2,none⟩ (.int .i32 av)).setCell ⟨w.heap.size,3,none⟩ (.int .i32 bh)).setCell ⟨w.heap.size,4,none⟩ (.bool false)):=((((td.setCell (p:=⟨w.heap.size,0,none⟩) (Or.inr (Ab _)) _).setCell (p:=⟨w.heap.size,1,none⟩) (Or.inr (Ab _)) _).setCell (p:=⟨w.heap.size,2,none⟩) (Or.inr (Ab _)) _).setCell (p:=⟨w.heap.size,3,none⟩) (Or.inr (Ab _)) _).setCell (p:=⟨w.heap.size,4,none⟩) (Or.inr (Ab _)) _;have B9:aq (((((w2.setCell ⟨w.heap.size,0,none⟩ (.string s)).setCell ⟨w.heap.size,1,none⟩ (.int .i64 p)).setCell ⟨w.heap.size,2,none⟩ (.int .i32 av)).setCell ⟨w.heap.size,3,none⟩ (.int .i32 bh)).setCell ⟨w.heap.size,4,none⟩ (.bool false)) w.heap.size #[.string s,.int .i64 p,.int .i32 av,.int .i32 bh,.bool false] 105:=((((B2.setCell 0 (.string s)).setCell 1 (.int .i64 p)).setCell 2 (.int .i32 av)).setCell 3 (.int .i32 bh)).setCell 4 (.bool false);have K9:=ab K9;have B9:=ab B9;go_simp;generalize(((((w2.setCell ⟨w.heap.size,0,none⟩ (.string s)).setCell ⟨w.heap.size,1,none⟩ (.int .i64 p)).setCell ⟨w.heap.size,2,none⟩ (.int .i32 av)).setCell ⟨w.heap.size,3,none⟩ (.int .i32 bh)).setCell ⟨w.heap.size,4,none⟩ (.bool false))=w9 at*;have LX:=S1.o w9 K9.o;refine hK.o _ _ LX (fun _=>?_);clear hK K c0 c1 c2 c3 c4 f0 f1 f2 f3 f4;refine At (by kernel_rfl) ?_ _;refine jy ?_;clear S1 ak kR LX F;have c0:w9.cell? ⟨w.heap.size,0,none⟩=some (.string s):=B9.o.cell 0;have c1:w9.cell? ⟨w.heap.size,1,none⟩=some (.int .i64 p):=B9.o.cell 1;have c2:w9.cell? ⟨w.heap.size,2,none⟩=some (.int .i32 av):=B9.o.cell 2;have c3:w9.cell? ⟨w.heap.size,3,none⟩=some (.int .i32 bh):=B9.o.cell 3;have c4:w9.cell? ⟨w.heap.size,4,none⟩=some (.bool false):=B9.o.cell 4;go_simp;go_wp2_with fail;exact Bi (v:=.agg #[.string s,.int .i64 p,.int .i32 av,.int .i32 bh,.bool false]) (by simp[results,results80,go_sem,c0,c1,c2,c3,c4]) rfl ⟨rfl,K9.o⟩
def vO(c:FC)(K:ByteArray)(p q:Int)(op:Bool):CX:=⟨K.extract (p-c.aB).toNat (q-c.aB).toNat,p,oa c K p,-1,op⟩
def oI(g:FM)(c:FC)(x:CX):List Ev×Nat×Int:=eP (eJ g.ms x g.u0 g.G) x.n x.aY x.op 0 c.tl
structure DS(w:World)(fb:Nat)(g:FM)(c:FC)(K:ByteArray)(A:Int)(mt:Bool)(l:List bG)(au fix:Nat->Prop)(x:CX)(v:Value)(lx:List (Ev×Nat))(w':World):Prop where
 cO:nV w' w.heap.size v x (2*g.G) lx
 eq:lx.map (·.1)=(oI g c x).1
 mem:fE w' fb g {c with fr:=x.fr (oI g c x).2.1,tl:=(oI g c x).2.2} K A mt l au fix
 kept:aa (fun i=>i=fb) w w'
def SU(fb b9:Nat)(g:FM)(s:ByteArray)(p av:Int)(op:Bool)(W:World):Prop:=(W.cell? ⟨fb,0,none⟩=some (.slice (some ⟨g.mb,0,none⟩) g.ms.length g.cc)/\W.cell? ⟨fb,1,none⟩=some (.int .i64 (g.u0:Int))/\W.cell? ⟨fb,2,none⟩=some (.int .i64 (g.G:Int)))/\W.cell? ⟨b9,0,none⟩=some (.string s)/\W.cell? ⟨b9,1,none⟩=some (.int .i64 p)/\W.cell? ⟨b9,2,none⟩=some (.int .i32 av)/\W.cell? ⟨b9,3,none⟩=some (.int .i32 (-1))/\W.cell? ⟨b9,4,none⟩=some (.bool op)
theorem acE{op:Bool}(hg:g.Ok)(h:fE w fb g c K A mt l au fix)(h0:0<=c.aB)(h1:c.aB<=p)(GF:p<=q)(h2:q-c.aB<=K.size)(h3:q<=1000000000000)(h4:K.size<=10000000):
 Calls prog 51 #[.pointer (some ⟨fb,0,none⟩),.int .i64 p,.int .i64 q,.bool op] w fun e w'=>∃v lx,e=.returned v/\DS w fb g c K A mt l au fix (vO c K p q op) v lx w':=by
 have H:=ab h;have F1:=ab (aeS (p:=p) (q:=q) (bh:= -1) h.aj (yW h.kp) h.ma.j8 h0 h1 GF h2 h3 (by omega));have aP:(K.extract (p-c.aB).toNat (q-c.aB).toNat).size<=10000000:=by rw[extract_size K _ _ (by omega)];omega
 obtain⟨x,hx⟩:∃x,x=vO c K p q op:=⟨_,rfl⟩
 have s_:x.s=K.extract (p-c.aB).toNat (q-c.aB).toNat:=by rw[hx];rfl
 have ui:x.aB=p:=by rw[hx];rfl
 have BV:x.ah=oa c K p:=by rw[hx];rfl
 have yF:x.bh= -1:=by rw[hx];rfl
 have Jp:x.op=op:=by rw[hx];rfl
 rw[<-hx];rw[<-s_]at aP;rw[<-s_,<-BV]at F1;have HX:=ab (And.intro s_ (And.intro ui (And.intro BV (And.intro yF Jp))));have qZ:=ab aP;obtain⟨s,hs⟩:∃s,s=x.s:=⟨_,rfl⟩
 obtain⟨av,vv⟩:∃av,av=x.ah:=⟨_,rfl⟩
 rw[<-hs,<-vv]at F1;have HS:=ab (And.intro hs vv);clear h hx s_ ui BV yF Jp aP hs vv;go_in;go_wp2_with fail;refine(F1.o).mono ?_;rintro e w1 ⟨rfl,k1⟩;have H1:=ab (H.o.new k1);have K1:=ab k1;clear F1 k1 H;have B9:=aq.new w1 #[.string s,.int .i64 p,.int .i32 av,.int .i32 (-1),.bool op] 105;have k2:aa af w1 (w1.alloc (.cells #[.string s,.int .i64 p,.int .i32 av,.int .i32 (-1),.bool op] 105)):=(aa.refl af w1).alloc _;have H2:=H1.o.new k2;have Lm:(w1.alloc (.cells #[.string s,.int .i64 p,.int .i32 av,.int .i32 (-1),.bool op] 105)).cell? ⟨fb,10,none⟩=some (.int .i64 c.fr):=H2.aj.cell 10;have f10:(w1.alloc (.cells #[.string s,.int .i64 p,.int .i32 av,.int .i32 (-1),.bool op] 105)).frozen? ⟨fb,10,none⟩=false:=H2.aj.frozen 10;have az:w1.heap.size≠fb:=by have:=H1.o.aj.lt;omega
 have K3:Hid (aa (fun i=>i=fb) w ((w1.alloc (.cells #[.string s,.int .i64 p,.int .i32 av,.int .i32 (-1),.bool op] 105)).setCell ⟨fb,10,none⟩ (.int .i64 p))):=((K1.o.trans k2).mono (S':=fun i=>i=fb) (fun i hx=>hx.elim)).setCell (p:=⟨fb,10,none⟩) (Or.inl rfl) _;have H3:Hid (fE ((w1.alloc (.cells #[.string s,.int .i64 p,.int .i32 av,.int .i32 (-1),.bool op] 105)).setCell ⟨fb,10,none⟩ (.int .i64 p)) fb g {c with fr:=p} K A mt l au fix):=H2.put ((aa.refl (fun i=>i=fb) _).setCell (p:=⟨fb,10,none⟩) (Or.inl rfl) _) (H2.aj.setCell 10 (.int .i64 p)) ⟨rfl,rfl,rfl,rfl,rfl⟩;have B3:=ab (B9.y9 (p:=⟨fb,10,none⟩) az (.int .i64 p));clear H2 k2 B9 H1;go_wp2_with fail;generalize((w1.alloc (.cells #[.string s,.int .i64 p,.int .i32 av,.int .i32 (-1),.bool op] 105)).setCell ⟨fb,10,none⟩ (.int .i64 p))=w3 at*;clear Lm f10
 have S1:Hid (∀W,aa af w3 W->SU fb w1.heap.size g s p av op W):=fun W k=>by
  have a:=H3.o.aj.kept k (fun hx=>hx);have b:=B3.o.kept k (fun hx=>hx);exact⟨⟨(a.cell 0).trans (by show some c.mv=_;rw[H3.o.mv];rfl),(a.cell 1).trans (by show some (Value.int .i64 c.st)=_;rw[H3.o.st]),(a.cell 2).trans (by show some (Value.int .i64 c.G)=_;rw[H3.o.G])⟩,b.cell 0,b.cell 1,b.cell 2,b.cell 3,b.cell 4⟩
 have F2:=afq (w:=w3.drew) (cE:=fb) (co:=10) (cs:=({c with fr:=p}:FC).cells) (ty:=124) (x:=x) (i0:=0) (NN:=c.tl) (T:=eJ g.ms x g.u0 g.G) (R:=oI g c x) (H3.o.ma.kept (aa.refl af w3).drew) hg.fL hg.q hg.bJ qZ.o (by rw[HX.o.2.1];omega) hg.u0 hg.G (fun i _=>rfl) (xI hg.fL x hg.u0 g.G)
  (by
    have e0:x.fr 0=p:=by rw[CX.LJ (Ao _)];unfold CX.aY;rw[sB,HX.o.2.1];simp
    rw[FC.wO,e0];exact H3.o.aj) (by show 10+1<17;decide) (Ao _) rfl
  ⟨fun e=>(H3.o.nu fb (Or.inr (Or.inl (Or.inl e)))).1 rfl,fun e=>(H3.o.nu fb (Or.inr (Or.inl (Or.inr e)))).1 rfl,fun e=>(H3.o.nu fb (Or.inr (Or.inr (Or.inl e)))).1 rfl,fun e=>(H3.o.nu fb (Or.inr (Or.inr (Or.inr e)))).1 rfl⟩
 rw[HX.o.2.1,HX.o.2.2.2.1,HX.o.2.2.2.2,<-HS.o.1,<-HS.o.2]at F2;have F2:=ab F2;refine j9 (Ch (by kernel_rfl) (Cc (S:=SU fb w1.heap.size g s p av op) _ _ _ _ ?_));have ak:=S1.o w3.drew (aa.refl _ _).drew;refine ai 0 21 (.pointer (some ⟨fb,0,none⟩)) ak ?_;refine ai 1 22 (.pointer (some ⟨fb,0,none⟩)) ak ?_;refine ai 2 23 (.pointer (some ⟨fb,0,none⟩)) ak ?_;refine ai 3 24 (.agg #[.slice (some ⟨g.mb,0,none⟩) g.ms.length g.cc,.int .i64 (g.u0:Int),.int .i64 (g.G:Int)]) ak ?_;refine ai 4 25 (.agg #[.string s,.int .i64 p,.int .i32 av,.int .i32 (-1),.bool op]) ak ?_;refine ai 5 26 (.pointer (some ⟨fb,0,none⟩)) ak ?_;refine ai 6 27 (.pointer (some ⟨fb,0,none⟩)) ak ?_;refine ai 7 28 (.pointer (some ⟨fb,10,none⟩)) ak ?_;simp only[Act.put,Aa,Ad,Ac];refine bQ 8 fun K hK=>?_
 go_simp;refine(F2.o).mono ?_;rintro e w4 ⟨v,lx,rfl,hE,hl,hB,k4⟩;dsimp only;have CB:aa (fun i=>i=fb) w3 w4:=((aa.refl _ w3).drew).trans k4;have H4:fE w4 fb g {c with fr:=x.fr (oI g c x).2.1,tl:=(oI g c x).2.2} _ A mt l au fix:=H3.o.put CB hB ⟨rfl,rfl,rfl,rfl,rfl⟩;have b4:=B3.o.kept CB (fun e=>az e);have cx:SU fb w1.heap.size g s p av op w4:=⟨⟨(H4.aj.cell 0).trans (by show some c.mv=_;rw[H3.o.mv];rfl),(H4.aj.cell 1).trans (by show some (Value.int .i64 c.st)=_;rw[H3.o.st]),(H4.aj.cell 2).trans (by show some (Value.int .i64 c.G)=_;rw[H3.o.G])⟩,b4.cell 0,b4.cell 1,b4.cell 2,b4.cell 3,b4.cell 4⟩;have rL:=K3.o.size;have ax:=ab (show DS w fb g c _ A mt l au fix x v lx w4 from⟨⟨CN hE.row rL,fun r hr=>⟨Bb rL (hE.iS r hr).1,(hE.iS r hr).2⟩⟩,hl,H4,K3.o.trans CB⟩);refine hK.o _ _ cx (fun _=>?_);clear hK K;refine ai 9 8 v cx ?_;simp only[Act.put,Aa,Ad,Ac];refine At (by kernel_rfl) ?_ _;refine jy ?_;clear F2 S1 ak cx hE hl hB k4 CB H4 b4;go_simp;go_wp2_with fail;go_ret;exact⟨v,lx,rfl,ax.o⟩
def FC.iP(c:FC):FC:={c with pl:=c.fr,ma:=0,mz:=0,md:=false}
def Sl(fb:Nat)(T:TypeId)(xv:Value)(fr:Int)(W:World):Prop:=W.cell? ⟨fb,3,none⟩=some (.iface T xv)/\W.cell? ⟨fb,7,none⟩=some (.int .i64 fr)
theorem ail(h:fE w fb g c K A mt l au fix)(h0:0<=c.aB)(h1:c.aB<=c.fr)(h2:c.fr-c.aB<=K.size)(h3:c.fr<=1000000000000)(h4:K.size<=1000000000000):
 Calls prog 78 #[.pointer (some ⟨fb,0,none⟩)] w fun e w'=>e=.returned (.tuple #[])/\∃cF,fE w' fb g c.iP K (oa c K c.fr) false [] cF fix/\cH (fun i=>au i\/i=fb) cF w w':=by
 have H:=ab h;have p10:w.cell? ⟨fb,10,none⟩=some (.int .i64 c.fr):=h.aj.cell 10;have p7:w.cell? ⟨fb,7,none⟩=some (.int .i64 c.pl):=h.aj.cell 7;have Ra:w.cell? ⟨fb,12,none⟩=some (.int .i64 c.ma):=h.aj.cell 12;have Rb:w.cell? ⟨fb,13,none⟩=some (.int .i64 c.mz):=h.aj.cell 13;have p14:w.cell? ⟨fb,14,none⟩=some (.bool c.md):=h.aj.cell 14;have f7:w.frozen? ⟨fb,7,none⟩=false:=h.aj.frozen 7;have f12:w.frozen? ⟨fb,12,none⟩=false:=h.aj.frozen 12;have f13:w.frozen? ⟨fb,13,none⟩=false:=h.aj.frozen 13;have f14:w.frozen? ⟨fb,14,none⟩=false:=h.aj.frozen 14;have kB:aa (fun i=>i=fb) w ((((w.setCell ⟨fb,7,none⟩ (.int .i64 c.fr)).setCell ⟨fb,12,none⟩ (.int .i64 0)).setCell ⟨fb,13,none⟩ (.int .i64 0)).setCell ⟨fb,14,none⟩ (.bool false)):=((((aa.refl (fun i=>i=fb) w).setCell (p:=⟨fb,7,none⟩) (Or.inl rfl) _).setCell (p:=⟨fb,12,none⟩) (Or.inl rfl) _).setCell (p:=⟨fb,13,none⟩) (Or.inl rfl) _).setCell (p:=⟨fb,14,none⟩) (Or.inl rfl) _;have H1:Hid (fE ((((w.setCell ⟨fb,7,none⟩ (.int .i64 c.fr)).setCell ⟨fb,12,none⟩ (.int .i64 0)).setCell ⟨fb,13,none⟩ (.int .i64 0)).setCell ⟨fb,14,none⟩ (.bool false)) fb g c.iP K A mt l au fix):=h.put kB ((((h.aj.setCell 7 (.int .i64 c.fr)).setCell 12 (.int .i64 0)).setCell 13 (.int .i64 0)).setCell 14 (.bool false)) ⟨rfl,rfl,rfl,rfl,rfl⟩;have KB:=ab kB;clear h kB H;go_in;go_wp2_with fail;generalize((((w.setCell ⟨fb,7,none⟩ (.int .i64 c.fr)).setCell ⟨fb,12,none⟩ (.int .i64 0)).setCell ⟨fb,13,none⟩ (.int .i64 0)).setCell ⟨fb,14,none⟩ (.bool false))=w1 at*;clear p10 p7 Ra Rb p14 f7 f12 f13 f14;have F1:=ab (Tm (pl:=c.fr) (H1.o.new (aa.refl _ w1).drew).aj (yW (H1.o.new (aa.refl _ w1).drew).kp) (H1.o.new (aa.refl _ w1).drew).ma.j8 h0 h1 h2 h3 h4);rw[show oa c.iP K c.fr=oa c K c.fr from rfl]at F1;have hex:∃T xv,c.ev=.iface T xv:=by obtain⟨T,xv,fn,ku,_⟩:=H1.o.en.first;exact⟨T,xv,ku⟩
 obtain⟨T,xv,ku⟩:=hex
 have S1:Hid (∀W,aa af w1 W->Sl fb T xv c.fr W):=fun W k=>by
  have:=H1.o.aj.kept k (fun hx=>hx);exact⟨by rw[<-ku];exact this.cell 3,this.cell 7⟩
 refine j9 (Ch (by kernel_rfl) (Cc (S:=Sl fb T xv c.fr) _ _ _ _ ?_));have ak:=S1.o w1.drew (aa.refl _ _).drew;refine ai 0 14 (.pointer (some ⟨fb,0,none⟩)) ak ?_;refine ai 1 15 (.pointer (some ⟨fb,0,none⟩)) ak ?_;refine ai 2 16 (.pointer (some ⟨fb,3,none⟩)) ak ?_;refine ai 3 17 (.iface T xv) ak ?_;refine ai 4 18 (.pointer (some ⟨fb,0,none⟩)) ak ?_;refine ai 5 19 (.pointer (some ⟨fb,0,none⟩)) ak ?_;refine ai 6 20 (.pointer (some ⟨fb,0,none⟩)) ak ?_;refine ai 7 21 (.pointer (some ⟨fb,7,none⟩)) ak ?_;refine ai 8 22 (.int .i64 c.fr) ak ?_;refine ai 10 24 (.iface T xv) ak ?_;refine ai 11 25 (.iface T xv) ak ?_;simp only[Act.put,Aa,Ad,Ac];refine bQ 9 fun K hK=>?_
 go_simp;refine(F1.o).mono ?_;rintro e w2 ⟨rfl,k2⟩;dsimp only;have td:aa af w1 w2:=((aa.refl af w1).drew).trans k2;have kR:=S1.o w2 td;refine hK.o _ _ kR (fun _=>?_);clear hK K;have H2:=ab (H1.o.new td);have K2:Hid (aa (fun i=>i=fb) w w2):=KB.o.bZ td (fun i _ hx=>hx.elim);clear F1 S1 ak td k2 H1 KB;obtain⟨T',xv',fn,UZ,iA,I3,F2⟩:=H2.o.en.begin (c:=oa c K c.fr);have hT:T'=T/\xv'=xv:=by have:=UZ.symm.trans ku;simp at this;exact this
 obtain⟨rfl,rfl⟩:=hT;have F2:=ab F2;obtain⟨av,vv⟩:∃av,av=oa c K c.fr:=⟨_,rfl⟩
 rw[<-vv]at F2⊢;have Sn:=ab vv;have HEV:=ab UZ;clear ku UZ vv;refine bQ 12 fun K hK=>?_
 go_simp;refine(F2.o).mono ?_;rintro e w3 ⟨rfl,Q8,hE3,Ur⟩;dsimp only;have H3:=ab (H2.o.qt hE3 Ur);have rB:Sl fb T' xv' c.fr w3:=⟨by rw[<-HEV.o];exact H3.o.aj.cell 3,H3.o.aj.cell 7⟩;refine hK.o _ _ rB (fun _=>?_);clear hK K;refine At (by kernel_rfl) ?_ _;refine jy ?_;go_end0;refine⟨rfl,Q8,by rw[<-Sn.o];exact H3.o,⟨?_,?_⟩⟩
 ·exact(K2.o.mono (fun i hi=>Or.inr hi)).bZ Ur.kept (fun i _ hx=>Or.inl hx)
 ·intro i hi;rcases Ur.aj i hi with h|h
  ·exact Or.inl (Or.inl h)
  ·exact Or.inr (Bb K2.o.size h)
theorem FM.uv(h:jt w g.lo g.hi g.mb g.cc g.vs g.ms)(hi:g.cM i):i<w.heap.size:=by
 have h1:=h.le;have h2:=h.j8.lt;have h3:=h.iw.lt;rcases hi with(hi|hi)|(hi|hi)
 ·rw[hi];exact h3
 ·omega
 ·rw[hi];exact h2.1
 ·rw[hi];exact h2.2
theorem fE.aeA{w':World}{c':FC}{K':ByteArray}(h:fE w fb g c K A mt l au fix)(k:aa (fun i=>i=fb\/c.kv.ownBlock=some i) w w')(hb:aq w' fb c'.cells 124)(e:c'.mv=c.mv/\c'.st=c.st/\c'.G=c.G/\c'.ev=c.ev)
 (rI:w'.ownsRow 0 5 1 c'.kv K'.size (jT K'))(iV:∀i,c'.kv.ownBlock=some i->c.kv.ownBlock=some i\/w.heap.size<=i):fE w' fb g c' K' A mt l au fix where
 aj:=hb
 ma:=h.ma.MU k (fun i hi hm=>hi.elim (fun hi=>(h.nu i (Or.inr hm)).1 hi) (fun hi=>(h.nu i (Or.inr hm)).2 hi))
 mv:=e.1.trans h.mv
 st:=e.2.1.trans h.st
 G:=e.2.2.1.trans h.G
 en:=by rw[e.2.2.2];exact h.en.kept k (fun i hi=>⟨fun ho=>hi.elim (fun hi=>(h.ll i ho).1 hi) (fun hi=>(h.ll i ho).2.1 hi),fun hf=>hi.elim (fun hi=>(h.nu i (Or.inl hf)).1 hi) (fun hi=>(h.nu i (Or.inl hf)).2 hi)⟩)
 kp:=rI
 ll i hi:=⟨(h.ll i hi).1,fun hx=>(iV i hx).elim (h.ll i hi).2.1 (fun hn=>by have:=h.en.lt.1 i hi;omega),(h.ll i hi).2.2⟩
 nu i hi:=⟨(h.nu i hi).1,fun hx=>(iV i hx).elim (h.nu i hi).2 (fun hn=>by
  have:i<w.heap.size:=hi.elim (h.en.lt.2 i) (fun hm=>FM.uv h.ma hm);omega)⟩
 tN:=fun hx=>(iV fb hx).elim h.tN (fun hn=>by have:=h.aj.lt;omega)
theorem aho(h:fE w fb g c K A mt l au fix)(h1:q<=c.aB):
 Calls prog 79 #[.pointer (some ⟨fb,0,none⟩),.int .i64 q] w fun e w'=>e=.returned (.tuple #[])/\w'=w:=by
 have p5:w.cell? ⟨fb,5,none⟩=some (.int .i64 c.aB):=h.aj.cell 5;generalize c.aB=bg at*;clear h;have gO:¬bg<q:=by omega
 go_in
 go_wp2_with fail
 go_end0
 exact⟨rfl,rfl⟩
theorem ahp(h:fE w fb g c K A mt l au fix)(h0:0<=c.aB)(h1:c.aB<q)(h2:q-c.aB<=K.size)(h3:q<=1000000000000)(h4:K.size<=100000000000):
 Calls prog 79 #[.pointer (some ⟨fb,0,none⟩),.int .i64 q] w fun e w'=>e=.returned (.tuple #[])/\∃v',fE w' fb g {c with ah:=oa c K q,kv:=v',aB:=q} (K.extract (q-c.aB).toNat K.size) A mt l au fix/\aa (fun i=>i=fb) w w'/\∀i,v'.ownBlock=some i->w.heap.size<=i:=by
 have H:=ab h;have p5:w.cell? ⟨fb,5,none⟩=some (.int .i64 c.aB):=h.aj.cell 5;have F1:=ab (Tm (pl:=q) h.aj (yW h.kp) h.ma.j8 h0 (by omega) h2 h3 (by omega));clear h;go_in;go_wp2_with fail;refine(F1.o).mono ?_;rintro e w1 ⟨rfl,k1⟩;have H1:=ab (H.o.new k1);have K1:=ab k1;obtain⟨av,vv⟩:∃av,av=oa c K q:=⟨_,rfl⟩
 rw[<-vv];have Sn:=ab vv;have p6:w1.cell? ⟨fb,6,none⟩=some (.int .i32 c.ah):=H1.o.aj.cell 6;have f6:w1.frozen? ⟨fb,6,none⟩=false:=H1.o.aj.frozen 6;have B2:=ab (show aq (w1.setCell ⟨fb,6,none⟩ (.int .i32 av)) fb ({c with ah:=av}:FC).cells 124 from H1.o.aj.setCell 6 (.int .i32 av));have K2:Hid (aa (fun i=>i=fb) w1 (w1.setCell ⟨fb,6,none⟩ (.int .i32 av))):=(aa.refl (fun i=>i=fb) w1).setCell (p:=⟨fb,6,none⟩) (Or.inl rfl) _;have F2:=ab (QN (c:={c with ah:=av}) (pl:=q) B2.o ((yW H1.o.kp).kept K2.o (fun i hi hx=>H1.o.tN (by rw[<-hx];exact hi))) h0 (show c.aB<=q by omega) h2 h3);have h12:=K2.o.size;clear F1 k1 vv p5 H;go_wp2_with fail;generalize w1.setCell ⟨fb,6,none⟩ (.int .i32 av)=w2 at*;clear p6 f6;refine(F2.o).mono ?_;rintro e w3 ⟨⟨v,rfl,sN⟩,n,rfl⟩;have aP:(K.extract (q-c.aB).toNat K.size).size<=140737488355328:=by rw[extract_size K _ _ (Ab _)];omega
 have F3:=ab (agT (w:=w2.drewN n) (sN.new ((aa.refl _ w2).drewN n)) aP);clear sN aP F2;go_wp2_with fail;refine(F3.o).mono ?_;rintro e w4 ⟨v',rfl,dO,k4⟩;have MR:aa af w2 w4:=((aa.refl af w2).drewN n).trans k4;have B4:=B2.o.kept MR (fun hx=>hx);have K14:=ab (K2.o.bZ MR (fun i _ hx=>hx.elim));have HN:Hid (∀i,v'.ownBlock=some i->w2.heap.size<=i):=fun i hi=>(dE dO hi).1
 have abT:w4.ownsRow 0 5 1 v' (K.extract (q-c.aB).toNat K.size).size (jT (K.extract (q-c.aB).toNat K.size)):=CN dO (Ao _);have p4:w4.cell? ⟨fb,4,none⟩=some c.kv:=B4.cell 4;have f4:w4.frozen? ⟨fb,4,none⟩=false:=B4.frozen 4;have B5:=B4.setCell 4 v';have q5:(w4.setCell ⟨fb,4,none⟩ v').cell? ⟨fb,5,none⟩=some (.int .i64 c.aB):=B5.cell 5;have f5:(w4.setCell ⟨fb,4,none⟩ v').frozen? ⟨fb,5,none⟩=false:=B5.frozen 5;have B6:=ab (show aq ((w4.setCell ⟨fb,4,none⟩ v').setCell ⟨fb,5,none⟩ (.int .i64 q)) fb ({c with ah:=av,kv:=v',aB:=q}:FC).cells 124 from B5.setCell 5 (.int .i64 q));have HR:=ab abT;obtain⟨ao,nv,cv,BM⟩:∃ao nv cv,v'=.slice ao nv cv:=by obtain⟨ao,cv,h⟩:=cK dO;exact⟨ao,_,cv,h⟩
 clear F3 B2 K2 dO abT k4 MR B4 B5;subst BM;go_wp2_with fail;go_end0;have kk:aa (fun i=>i=fb) w1 ((w4.setCell ⟨fb,4,none⟩ (.slice ao nv cv)).setCell ⟨fb,5,none⟩ (.int .i64 q)):=(K14.o.setCell (p:=⟨fb,4,none⟩) (Or.inl rfl) _).setCell (p:=⟨fb,5,none⟩) (Or.inl rfl) _;have cU:=K1.o.size;refine⟨rfl,_,?_,(K1.o.mono (fun i hx=>hx.elim)).bZ kk (fun i _ hx=>hx),fun i hi=>by have:=HN.o i hi;omega⟩;rw[<-Sn.o];refine H1.o.aeA (kk.mono (fun i hi=>Or.inl hi)) B6.o ⟨rfl,rfl,rfl,rfl⟩ ?_ (fun i hi=>Or.inr (by have:=HN.o i hi;omega));refine bY HR.o ((((aa.refl (fun i=>i=fb) w4).setCell (p:=⟨fb,4,none⟩) (Or.inl rfl) _).setCell (p:=⟨fb,5,none⟩) (Or.inl rfl) _)) (fun b hb hx=>?_);have:=HN.o b hb;have:=H1.o.aj.lt;omega
theorem aoQ(hg:g.Ok)(h:fE w fb g c K A mt l au fix)(h0:0<=c.aB)(h1:c.aB<=c.ma)(GF:c.ma<=c.re)(h2:c.re-c.aB<=K.size)(h3:c.re<=1000000000000)(h4:K.size<=10000000)(hz:0<=c.mz/\c.mz<=1000000000000)(hp:0<=c.pl/\c.pl<=1000000000000)
 (ha:c.ag=true)(hf:32<c.pl-c.mz):
 Calls prog 77 #[.pointer (some ⟨fb,0,none⟩)] w fun e w'=>∃v lx,e=.returned v/\DS w fb g c K A mt l au fix (vO c K c.ma c.re true) v lx w':=by
 have Ra:w.cell? ⟨fb,12,none⟩=some (.int .i64 c.ma):=h.aj.cell 12;have Rb:w.cell? ⟨fb,13,none⟩=some (.int .i64 c.mz):=h.aj.cell 13;have p9:w.cell? ⟨fb,9,none⟩=some (.bool true):=(h.aj.cell 9).trans (by show some (Value.bool c.ag)=_;rw[ha]);have p7:w.cell? ⟨fb,7,none⟩=some (.int .i64 c.pl):=h.aj.cell 7;have p8:w.cell? ⟨fb,8,none⟩=some (.int .i64 c.re):=h.aj.cell 8;have BU:IntKind.i64.wrap (c.pl-c.mz)=c.pl-c.mz:=zo (by omega) (by omega);have F:=ab fun(n:Nat)=>acE (op:=true) (w:=w.drewN n) hg (h.new ((aa.refl af w).drewN n)) h0 h1 GF h2 h3 h4
 have ax:Hid (∀n v lx w',DS (w.drewN n) fb g c K A mt l au fix (vO c K c.ma c.re true) v lx w'->DS w fb g c K A mt l au fix (vO c K c.ma c.re true) v lx w'):=fun n v lx w' hL=>⟨hL.cO,hL.eq,hL.mem,((aa.refl _ w).drewN n).trans hL.kept⟩
 clear h ha h1 GF h2 h3 h4 h0;go_in;go_wp2_with fail;go_quiet (fail);go_wp2_with fail;refine(F.o nq).mono ?_;rintro e w1 ⟨v,lx,rfl,hL⟩;have HL:=ab (ax.o _ _ _ _ hL);clear hL F ax;go_wp2_with fail;go_ret;exact⟨v,lx,rfl,HL.o⟩
theorem fE.lt(h:fE w fb g c K A mt l au fix)(hi:FO fb c au i\/fix i\/g.cM i):i<w.heap.size:=by
 rcases hi with(hi|hi|hi)|hi|hi
 ·exact h.en.lt.1 i hi
 ·rw[hi];exact h.aj.lt
 ·exact(dE h.kp hi).2
 ·exact h.en.lt.2 i hi
 ·exact FM.uv h.ma hi
def RP(c:FC)(K:ByteArray)(bh:Int):CX:=⟨K.extract (c.ma-c.aB).toNat (c.mz-c.aB).toNat,c.ma,oa c K c.ma,bh,false⟩
def FC.told(c:FC)(n:Int):FC:={c with fr:=if c.ma=c.mz then c.mz+n else c.mz,tl:=c.mz}
def FC.Jt(c:FC):Bool:=!(c.ma==c.mz&&c.mz==c.tl)
structure TlP(w:World)(fb:Nat)(g:FM)(c:FC)(K:ByteArray)(A:Int)(mt:Bool)(l:List bG)(au fix:Nat->Prop)(n:Int)(gs:List Int)(v:Value)(w':World):Prop where
 mem:fE w' fb g (c.told n) K A mt l au fix
 kept:aa (fun i=>i=fb) w w'
 no:c.Jt=false->v=.slice none 0 0
 yes:c.Jt=true->∃b gv,v=.slice (some ⟨b,0,none⟩) 1 1/\w.heap.size<=b/\aq w' b #[.int .i64 c.ma,.int .i64 c.mz,gv,.string (K.extract (c.ma-c.aB).toNat (c.mz-c.aB).toNat)] 46/\uF w' (fun i=>w.heap.size<=i) gv gs
def ZD(fb:Nat)(kv v':Value)(bg:Int)(s:ByteArray)(W:World):Prop:=(W.cell? ⟨fb,4,none⟩=some kv/\W.cell? ⟨fb,5,none⟩=some (.int .i64 bg))/\(convert 42 9 v').run prog W=.ok (.string s) W
def Th(fb:Nat)(g:FM)(W:World):Prop:=W.cell? ⟨fb,0,none⟩=some (.slice (some ⟨g.mb,0,none⟩) g.ms.length g.cc)/\W.cell? ⟨fb,1,none⟩=some (.int .i64 (g.u0:Int))/\W.cell? ⟨fb,2,none⟩=some (.int .i64 (g.G:Int))
theorem aoR{d:Nat×Nat}{j:Nat}{gs:List Int}(hg:g.Ok)(h:fE w fb g c K A mt l au fix)(h0:0<=c.aB)(h1:c.aB<=c.ma)(GF:c.ma<=c.mz)(h2:c.mz-c.aB<=K.size)(h3:c.mz<=1000000000000)(h4:K.size<=10000000)(hp:0<=c.pl/\c.pl<=1000000000000)
 (hn:¬(c.ag=true/\32<c.pl-c.mz))(hd:Lib.decodeGo (K.extract (c.mz-c.aB).toNat K.size)=d)(hw:d.2<=4)
 (hR:cZ g.ms (RP c K d.1) (g.u0:Int) 0 (gK g.G)=some (j,gs))(kU:gs.length=2*g.G):
 Calls prog 77 #[.pointer (some ⟨fb,0,none⟩)] w fun e w'=>∃v,e=.returned v/\TlP w fb g c K A mt l au fix d.2 gs v w':=by
 have H:=ab h;have Ra:w.cell? ⟨fb,12,none⟩=some (.int .i64 c.ma):=h.aj.cell 12;have Rb:w.cell? ⟨fb,13,none⟩=some (.int .i64 c.mz):=h.aj.cell 13;have p9:w.cell? ⟨fb,9,none⟩=some (.bool c.ag):=h.aj.cell 9;have p7:w.cell? ⟨fb,7,none⟩=some (.int .i64 c.pl):=h.aj.cell 7;have BU:IntKind.i64.wrap (c.pl-c.mz)=c.pl-c.mz:=zo (by omega) (by omega)
 have h_:(c.ag=false/\True)\/(c.ag=true/\¬32<c.pl-c.mz):=by
  cases PJ:c.ag with
  |false=>exact Or.inl ⟨rfl,trivial⟩
  |true=>exact Or.inr ⟨rfl,fun hx=>hn ⟨PJ,hx⟩⟩
 rcases h_ with⟨PJ,rK⟩|⟨PJ,rK⟩
 all_goals
  rw[PJ]at p9;have HR:=ab hR;clear h hR;go_in;go_wp2_with fail;go_quiet (fail);have H1:=ab (H.o.new ((aa.refl _ w).drewN nq));have K1:Hid (aa af w (w.drewN nq)):=(aa.refl _ w).drewN nq;have q9:(w.drewN nq).cell? ⟨fb,9,none⟩=some (.bool _):=p9;have q7:(w.drewN nq).cell? ⟨fb,7,none⟩=some (.int .i64 c.pl):=p7;generalize w.drewN nq=w1 at*;clear Ra Rb p9 p7 H;have F1:=ab (QN (pl:=c.mz) H1.o.aj (yW H1.o.kp) h0 (by omega) h2 h3);go_wp2_with fail;refine(F1.o).mono ?_;rintro e w2 ⟨⟨v,rfl,sN⟩,n,rfl⟩;have F2:=ab (aan (w:=w1.drewN n) (sN.new ((aa.refl _ w1).drewN n)) (H1.o.ma.j8.jZ ((aa.refl _ w1).drewN n)));rw[hd]at F2;clear sN F1 q9 q7;go_wp2_with fail;refine(F2.o).mono ?_;rintro e w3 ⟨rfl,k3⟩;have GX:=((aa.refl af w1).drewN n).trans k3;have H3:=ab (H1.o.new GX);have K3:=ab (K1.o.trans GX);clear F2 k3 GX H1 K1;have F3:=adW w3 fb 10 c.cells 124 c.fr c.tl c.ma c.mz (d.2:Int) (by rw[FC.wO];exact H3.o.aj) (by show 10+1<17;decide) (by omega) (by omega);obtain⟨ie,oz⟩:∃ie,ie=c.Jt:=⟨_,rfl⟩
  rw[show(!(c.ma==c.mz&&c.mz==c.tl))=ie from oz.symm]at F3;have F3:=ab F3;have SB:=ab oz;clear oz;go_wp2_with fail;refine(F3.o).mono ?_;rintro e w4 ⟨rfl,k4,hB4⟩;have H4:=ab (show fE w4 fb g (c.told d.2) K A mt l au fix from H3.o.put k4 hB4 ⟨rfl,rfl,rfl,rfl,rfl⟩);have K4:Hid (aa (fun i=>i=fb) w w4):=(K3.o.mono (S':=fun i=>i=fb) (fun i hx=>hx.elim)).trans k4;clear F3 k4 hB4 H3 K3
  cases ie with
  |false=>
   go_wp2_with fail
   go_ret
   exact⟨_,rfl,H4.o,K4.o,fun _=>rfl,fun hx=>absurd (SB.o.trans hx) (by decide)⟩
  |true=>
   have ib:=aeV (yW H4.o.kp) (x:=c.ma-c.aB) (y:=c.mz-c.aB) (by omega) (by omega) h2;obtain⟨v',ib,jV,_⟩:=ib;have pR:IntKind.i64.wrap (c.ma-c.aB)=c.ma-c.aB:=zo (by omega) (by omega);have pS:IntKind.i64.wrap (c.mz-c.aB)=c.mz-c.aB:=zo (by omega) (by omega);have oB:(c.told d.2).kv=c.kv:=rfl;have mT:(c.told d.2).aB=c.aB:=rfl;rw[oB]at ib;obtain⟨s,hs⟩:∃s,s=K.extract (c.ma-c.aB).toNat (c.mz-c.aB).toNat:=⟨_,rfl⟩
   rw[<-hs]at jV;have HS:=ab hs;obtain⟨kv,Ve⟩:∃kv,kv=c.kv:=⟨_,rfl⟩
   rw[<-Ve]at ib
   have S7:Hid (∀W,aa af w4 W->ZD fb kv v' c.aB s W):=fun W k=>by
    have:=H4.o.aj.kept k (fun hx=>hx);exact⟨⟨by rw[Ve];exact this.cell 4,this.cell 5⟩,aag (jV.new k)⟩
   clear oB mT jV hs Ve;go_wp2_with fail;refine j9 (Ch (by kernel_rfl) (Cc (S:=ZD fb kv v' c.aB s) _ _ _ _ ?_));have ak:=S7.o w4.drew (aa.refl _ _).drew;refine ai 0 53 (.int .i64 c.ma) ak ?_;refine ai 1 54 (.int .i64 c.mz) ak ?_;refine ai 2 55 (.pointer (some ⟨fb,0,none⟩)) ak ?_;refine ai 3 56 (.pointer (some ⟨fb,0,none⟩)) ak ?_;refine ai 4 57 (.pointer (some ⟨fb,4,none⟩)) ak ?_;refine ai 5 58 kv ak ?_;refine ai 6 59 (.int .i64 c.ma) ak ?_;refine ai 7 60 (.pointer (some ⟨fb,0,none⟩)) ak ?_;refine ai 8 61 (.pointer (some ⟨fb,0,none⟩)) ak ?_;refine ai 9 62 (.pointer (some ⟨fb,5,none⟩)) ak ?_;refine ai 10 63 (.int .i64 c.aB) ak ?_;refine ai 11 64 (.int .i64 (c.ma-c.aB)) ak ?_;refine ai 12 65 (.int .i64 c.mz) ak ?_;refine ai 13 66 (.pointer (some ⟨fb,0,none⟩)) ak ?_;refine ai 14 67 (.pointer (some ⟨fb,0,none⟩)) ak ?_;refine ai 15 68 (.pointer (some ⟨fb,5,none⟩)) ak ?_;refine ai 16 69 (.int .i64 c.aB) ak ?_;refine ai 17 70 (.int .i64 (c.mz-c.aB)) ak ?_;refine ai 18 71 v' ak ?_;refine ai 19 72 (.string s) ak ?_;refine ai 20 73 (.agg #[.int .i64 c.ma,.int .i64 c.mz,.slice none 0 0,.string s]) ak ?_;simp only[Act.put,Aa,Ad,Ac];refine bQ 21 fun K hK=>?_
   go_simp;have B5:aq (w4.alloc (.cells #[.int .i64 0,.int .i64 0,.slice none 0 0,.string ⟨#[]⟩] 46)).drew w4.heap.size #[.int .i64 0,.int .i64 0,.slice none 0 0,.string ⟨#[]⟩] 46:=aq.new w4 _ _;have k5:aa af w4 (w4.alloc (.cells #[.int .i64 0,.int .i64 0,.slice none 0 0,.string ⟨#[]⟩] 46)).drew:=((aa.refl af w4).alloc _).drew;refine hK.o _ _ (S7.o _ k5) (fun _=>?_);clear hK K;generalize(w4.alloc (.cells #[.int .i64 0,.int .i64 0,.slice none 0 0,.string ⟨#[]⟩] 46)).drew=w5 at*;have c0:w5.cell? ⟨w4.heap.size,0,none⟩=some (.int .i64 0):=B5.cell 0;have c1:w5.cell? ⟨w4.heap.size,1,none⟩=some (.int .i64 0):=B5.cell 1;have c2:w5.cell? ⟨w4.heap.size,2,none⟩=some (.slice none 0 0):=B5.cell 2;have c3:w5.cell? ⟨w4.heap.size,3,none⟩=some (.string ⟨#[]⟩):=B5.cell 3;have f0:w5.frozen? ⟨w4.heap.size,0,none⟩=false:=B5.frozen 0;have f1:w5.frozen? ⟨w4.heap.size,1,none⟩=false:=B5.frozen 1;have f2:w5.frozen? ⟨w4.heap.size,2,none⟩=false:=B5.frozen 2;have f3:w5.frozen? ⟨w4.heap.size,3,none⟩=false:=B5.frozen 3;have K6:Hid (aa af w4 ((((w5.setCell ⟨w4.heap.size,0,none⟩ (.int .i64 c.ma)).setCell ⟨w4.heap.size,1,none⟩ (.int .i64 c.mz)).setCell ⟨w4.heap.size,2,none⟩ (.slice none 0 0)).setCell ⟨w4.heap.size,3,none⟩ (.string s))):=(((k5.setCell (p:=⟨w4.heap.size,0,none⟩) (Or.inr (Ab _)) _).setCell (p:=⟨w4.heap.size,1,none⟩) (Or.inr (Ab _)) _).setCell (p:=⟨w4.heap.size,2,none⟩) (Or.inr (Ab _)) _).setCell (p:=⟨w4.heap.size,3,none⟩) (Or.inr (Ab _)) _;have B6:Hid (aq ((((w5.setCell ⟨w4.heap.size,0,none⟩ (.int .i64 c.ma)).setCell ⟨w4.heap.size,1,none⟩ (.int .i64 c.mz)).setCell ⟨w4.heap.size,2,none⟩ (.slice none 0 0)).setCell ⟨w4.heap.size,3,none⟩ (.string s)) w4.heap.size #[.int .i64 c.ma,.int .i64 c.mz,.slice none 0 0,.string s] 46):=(((B5.setCell 0 (.int .i64 c.ma)).setCell 1 (.int .i64 c.mz)).setCell 2 (.slice none 0 0)).setCell 3 (.string s);clear B5 k5;refine bQ 22 fun K hK=>?_
   go_simp;generalize((((w5.setCell ⟨w4.heap.size,0,none⟩ (.int .i64 c.ma)).setCell ⟨w4.heap.size,1,none⟩ (.int .i64 c.mz)).setCell ⟨w4.heap.size,2,none⟩ (.slice none 0 0)).setCell ⟨w4.heap.size,3,none⟩ (.string s))=w6 at*;refine hK.o _ _ (S7.o _ K6.o) (fun _=>?_);clear hK K c0 c1 c2 c3 f0 f1 f2 f3;refine At (by kernel_rfl) ?_ _;refine jy ?_;clear S7 ak ib pR pS;have H6:=ab (H4.o.new K6.o);have SR:Hid (aa (fun i=>i=fb) w w6):=K4.o.bZ K6.o (fun i _ hx=>hx.elim);have rM:=K4.o.size;have aqC:=K6.o.size;have aw:w4.heap.size<w6.heap.size:=B6.o.lt;have DJ:Hid (∀i,FO fb (c.told d.2) au i\/fix i\/g.cM i->i<w4.heap.size):=(fun i hi=>H4.o.lt hi);clear H4 K4 K6;have g2:w6.cell? ⟨fb,2,none⟩=some (.int .i64 (g.G:Int)):=(H6.o.aj.cell 2).trans (by show some (Value.int .i64 c.G)=_;rw[show c.G=(g.G:Int)from H6.o.G]);go_simp;by_cases hG:g.G=0
   ·have ai0:Hid (gs=[]):=Ax.1 (by rw[kU,hG]);have hgz:¬(0:Int)<(g.G:Int):=(by omega);have U4:¬0<g.G:=(by omega);have d0:w6.cell? ⟨w4.heap.size,0,none⟩=some (.int .i64 c.ma):=B6.o.cell 0;have d1:w6.cell? ⟨w4.heap.size,1,none⟩=some (.int .i64 c.mz):=B6.o.cell 1;have d2:w6.cell? ⟨w4.heap.size,2,none⟩=some (.slice none 0 0):=B6.o.cell 2;have d3:w6.cell? ⟨w4.heap.size,3,none⟩=some (.string s):=B6.o.cell 3;go_wp2_with fail;go_ret;refine⟨_,rfl,H6.o.new ((aa.refl af w6).alloc _),SR.o.alloc _,fun hx=>absurd (SB.o.trans hx) (by decide),fun _=>⟨w6.heap.size,.slice none 0 0,rfl,by omega,?_,Or.inl ⟨rfl,ai0.o⟩⟩⟩;rw[<-HS.o];exact aq.new w6 _ _
   ·have hgz:(0:Int)<(g.G:Int):=(by omega);have U4:0<g.G:=(by omega);go_wp2_with fail;obtain⟨x,hx⟩:∃x,x=RP c K (d.1:Int):=⟨_,rfl⟩
    have s_:x.s=K.extract (c.ma-c.aB).toNat (c.mz-c.aB).toNat:=by rw[hx];rfl
    have ui:x.aB=c.ma:=by rw[hx];rfl
    have BV:x.ah=oa c K c.ma:=by rw[hx];rfl
    have yF:x.bh=(d.1:Int):=by rw[hx];rfl
    have Jp:x.op=false:=by rw[hx];rfl
    have aP:x.s.size<=10000000:=by rw[s_,extract_size K _ _ (by omega)];omega
    have F8:=aeS (p:=c.ma) (q:=c.mz) (bh:=(d.1:Int)) (H6.o.new (aa.refl af w6).drew).aj (yW (H6.o.new (aa.refl af w6).drew).kp) (H6.o.new (aa.refl af w6).drew).ma.j8 h0 h1 GF h2 h3 (by omega)
    have F8:Calls prog 80 #[.pointer (some ⟨fb,0,none⟩),.int .i64 c.ma,.int .i64 c.mz,.int .i32 (d.1:Int)] w6.drew fun e w'=>e=.returned (.agg #[.string x.s,.int .i64 x.aB,.int .i32 x.ah,.int .i32 x.bh,.bool x.op])/\aa af w6.drew w':=by
     rw[s_,ui,BV,yF,Jp];exact F8
    have F9:=(ab fun(W:World) (k:aa af w6 W)=>afr (w:=W) (x:=x) (u0:=g.u0) (G2:=g.G) (j:=j) (jH:=gs) (H6.o.ma.kept k) hg.fL hg.q hg.bJ aP (by rw[ui];omega) hg.u0 hg.G Jp (by rw[hx];exact HR.o));have F8:=ab F8
    have S9:Hid (∀W,aa af w6 W->Th fb g W):=fun W k=>by
     have a:=H6.o.aj.kept k (fun hx=>hx);exact⟨(a.cell 0).trans (by show some c.mv=_;rw[show c.mv=g.mv from H6.o.mv];rfl),(a.cell 1).trans (by show some (Value.int .i64 c.st)=_;rw[show c.st=(g.u0:Int)from H6.o.st]),(a.cell 2).trans (by show some (Value.int .i64 c.G)=_;rw[show c.G=(g.G:Int)from H6.o.G])⟩
    have HX:=ab hx;clear hx s_ ui BV yF Jp aP HR;refine j9 (Ch (by kernel_rfl) (Cc (S:=Th fb g) _ _ _ _ ?_));have ak:=S9.o w6.drew (aa.refl _ _).drew;refine ai 0 80 (.pointer (some ⟨fb,0,none⟩)) ak ?_;refine ai 1 81 (.pointer (some ⟨fb,0,none⟩)) ak ?_;refine ai 2 82 (.pointer (some ⟨fb,0,none⟩)) ak ?_;refine ai 3 83 (.agg #[.slice (some ⟨g.mb,0,none⟩) g.ms.length g.cc,.int .i64 (g.u0:Int),.int .i64 (g.G:Int)]) ak ?_;refine ai 4 84 (.pointer (some ⟨fb,0,none⟩)) ak ?_;refine ai 5 85 (.int .i64 c.ma) ak ?_;refine ai 6 86 (.int .i64 c.mz) ak ?_;refine ai 7 87 (.int .i32 (d.1:Int)) ak ?_;simp only[Act.put,Aa,Ad,Ac];refine bQ 8 fun K hK=>?_
    go_simp;refine(F8.o).mono ?_;rintro e w7 ⟨rfl,k7⟩;dsimp only;have ly:aa af w6 w7:=((aa.refl af w6).drew).trans k7;refine hK.o _ _ (S9.o _ ly) (fun _=>?_);clear hK K F8 k7;refine bQ 9 fun K hK=>?_
    go_simp;refine(F9.o w7 ly).mono ?_;rintro e w8 ⟨gb,rfl,kT,AB,k8⟩;dsimp only;have MT:=ly.trans k8;have aqE:=MT.size;have wT:=S9.o _ MT;have B8:=B6.o.kept MT (fun hx=>hx);have H8:=H6.o.new MT;have aqD:=ly.size;refine hK.o _ _ wT (fun _=>?_);clear hK K F9;refine ai 10 90 (.pointer (some ⟨w4.heap.size,2,none⟩)) wT ?_;have c2:w8.cell? ⟨w4.heap.size,2,none⟩=some (.slice none 0 0):=B8.cell 2;have f2:w8.frozen? ⟨w4.heap.size,2,none⟩=false:=B8.frozen 2;have K9:Hid (aa (fun i=>i=w4.heap.size) w8 (w8.setCell ⟨w4.heap.size,2,none⟩ (.slice (some ⟨gb,0,none⟩) (2*g.G) (2*g.G)))):=(aa.refl (fun i=>i=w4.heap.size) w8).setCell (p:=⟨w4.heap.size,2,none⟩) (Or.inl rfl) _;have B9:Hid (aq (w8.setCell ⟨w4.heap.size,2,none⟩ (.slice (some ⟨gb,0,none⟩) (2*g.G) (2*g.G))) w4.heap.size #[.int .i64 c.ma,.int .i64 c.mz,.slice (some ⟨gb,0,none⟩) (2*g.G) (2*g.G),.string s] 46):=B8.setCell 2 _;have DA:=ab (And.intro H8 AB);have K08:Hid (aa (fun i=>i=fb) w w8):=SR.o.bZ MT (fun i _ hx=>hx.elim);clear B8 H8 AB;simp only[Act.put,Aa,Ad,Ac];refine bQ 11 fun K hK=>?_
    go_simp;generalize(w8.setCell ⟨w4.heap.size,2,none⟩ (.slice (some ⟨gb,0,none⟩) (2*g.G) (2*g.G)))=w9 at*
    have H9:=ab (DA.o.1.kept K9.o (fun i hi=>by
     have hi':i=w4.heap.size:=hi;refine⟨fun h=>?_,fun h=>?_,fun h=>?_⟩
     ·have:=DJ.o i (Or.inl h);omega
     ·have:=DJ.o i (Or.inr (Or.inl h));omega
     ·have:=DJ.o i (Or.inr (Or.inr h));omega))
    have aiW:¬gb=w4.heap.size:=(by omega);have BG:=ab (DA.o.2.kept K9.o (fun e=>aiW e));have K09:Hid (aa (fun i=>i=fb) w w9):=K08.o.bZ K9.o (fun i hi hx=>by have hx':i=w4.heap.size:=hx;omega);have LX:Th fb g w9:=⟨(H9.o.aj.cell 0).trans (by show some c.mv=_;rw[show c.mv=g.mv from H9.o.mv];rfl),(H9.o.aj.cell 1).trans (by show some (Value.int .i64 c.st)=_;rw[show c.st=(g.u0:Int)from H9.o.st]),(H9.o.aj.cell 2).trans (by show some (Value.int .i64 c.G)=_;rw[show c.G=(g.G:Int)from H9.o.G])⟩;refine hK.o _ _ LX (fun _=>?_);clear hK K c2 f2;refine At (by kernel_rfl) ?_ _;refine jy ?_;have d0:w9.cell? ⟨w4.heap.size,0,none⟩=some (.int .i64 c.ma):=B9.o.cell 0;have d1:w9.cell? ⟨w4.heap.size,1,none⟩=some (.int .i64 c.mz):=B9.o.cell 1;have d2:w9.cell? ⟨w4.heap.size,2,none⟩=some (.slice (some ⟨gb,0,none⟩) (2*g.G) (2*g.G)):=B9.o.cell 2;have d3:w9.cell? ⟨w4.heap.size,3,none⟩=some (.string s):=B9.o.cell 3;have hs9:=K9.o.size;clear S9 ak wT LX H6 B6 SR;go_simp;go_wp2_with fail;go_ret;refine⟨_,rfl,H9.o.new ((aa.refl af w9).alloc _),K09.o.alloc _,fun hx=>absurd (SB.o.trans hx) (by decide),fun _=>⟨w9.heap.size,.slice (some ⟨gb,0,none⟩) (2*g.G) (2*g.G),rfl,by omega,?_,Or.inr ⟨gb,by rw[kU],by omega,BG.o.alloc _⟩⟩⟩;rw[<-HS.o];exact aq.new w9 _ _
theorem OZ{f:Nat}(hf:f<=(aF X).length)(h:aK X f<=aK X a):f<=a\/(aF X).length<=a:=by
 rcases Nat.lt_or_ge a f with h1|h1
 ·have:=zM h1 (show a<(aF X).length by omega);unfold aK at h;omega
 ·exact Or.inl h1
theorem OQ(hc:N7 X s c)(hf:s.f<=a)(ha:a<=(aF X).length)(hq:bd X a<=s.aW)(hx:s.aW<=X.size):uW X a (oa c (s.K X) (aK X a)):=by
 unfold oa;by_cases e:aK X a=c.aB
 ·rw[if_pos e];have:a=s.f:=OX ha (by omega) (by rw[e,hc.aB]);rw[this];exact hc.j7
 ·rw[if_neg e];have az:s.f≠a:=fun h=>e (by rw[hc.aB,h])
  have hm:=fR X hf;have e1:(aK X a-c.aB).toNat=bd X a-bd X s.f:=by rw[hc.aB];unfold aK;omega
  have e2:(s.K X).extract 0 (aK X a-c.aB).toNat=X.extract (bd X s.f) (bd X a):=by
   rw[e1];unfold bR.K;rw[Ph X _ _ _ _ (by omega)];congr 1;omega
  rw[e2,afJ (by omega) ha];exact uW.mk X a
structure ZB(w:World)(fb:Nat)(g:FM)(X:ByteArray)(s s':bR)(c:FC)(au fix:Nat->Prop)(w':World)(c':FC)(cF:Nat->Prop):Prop where
 at_:jC w' fb g X s' c' cF fix
 dA:cH (FO fb c au) (FO fb c' cF) w w'
 tl:s'.b=s.b/\s'.told=s.told/\s'.i=s.i+1/\s'.aW=s.aW/\s'.f=s.f/\c'.wn=c.wn
 ty:∃A,s'=s.step g.ms g.u0 X A/\pD g.ms ((aO X).ahead s.i) A
theorem ah_(hg:g.Ok)(h:jC w fb g X s c au fix)(AR:sJ (X.extract (bd X s.i) s.aW)=true):
 Calls prog 75 #[.pointer (some ⟨fb,0,none⟩)] w fun e w'=>e=.returned (.tuple #[])/\∃s' c' cF,ZB w fb g X s s' c au fix w' c' cF:=by
 obtain⟨A,hM,hA⟩:=h.mem;have hc:=h.fc;have hk:=h.ok;obtain⟨b1,b2,b3,b4,b5,b6⟩:=hk.u5;obtain⟨hi,hn⟩:=aaZ b5 b4 AR;have aP:=hk.sz;have iz:=pJ hi;have vz:=sA hi;obtain⟨r1,r2⟩:=aeh hi b4 hn;have hr:=Rv hi
 have eK:(s.K X).extract (c.pl-c.aB).toNat (s.K X).size=X.extract (bd X s.i) s.aW:=by
  have:(c.pl-c.aB).toNat=bd X s.i-bd X s.f:=by rw[hc.pl,hc.aB];unfold aK;omega
  rw[this];exact bR.from_ b1 (by omega) b4
 obtain⟨d,hd⟩:∃d,d=Lib.decodeGo (X.extract (bd X s.i) s.aW):=⟨_,rfl⟩
 rw[<-hd]at r1 r2;have hp:c.pl=(bd X s.i:Int):=hc.pl;have hb:c.aB=(bd X s.f:Int):=hc.aB;have GG:c.re=(bd X s.r:Int):=hc.re;have ajC:((d.1:Nat):Int)=(aO X).bl s.i:=r1;refine(aoy (d:=d) hM (by omega) (by omega) (by omega) (by omega) (by omega) (by rw[eK,hd]) (by have:(aO X).bl s.i=(fP X).bl s.i:=rfl;omega) (by omega)).mono ?_;rintro e w' ⟨rfl,cF,hS⟩;refine⟨rfl,s.step g.ms g.u0 X A,c.step d.2 (aZ g.ms A ((aO X).bl s.i) (jA g.u0 (aK X s.i) s.mt.isSome s.l)),cF,⟨⟨⟨(aO X).bl s.i,?_,?_⟩,?_,hk.step hg.fL hg.u0 hA hi hn⟩,⟨?_,?_⟩,⟨rfl,rfl,rfl,rfl,rfl,rfl⟩,⟨A,rfl,hA⟩⟩⟩
 ·have hm:=hS.mem;have e1:pW (g.u0:Int) c.pl s.mt.isSome s.l=jA g.u0 (aK X s.i) s.mt.isSome s.l:=by rw[hc.pl];rfl
  rw[e1,ajC]at hm
  have e2:(s.mt.isSome||(aZ g.ms A ((aO X).bl s.i) (jA g.u0 (aK X s.i) s.mt.isSome s.l)).2.isSome)=(s.step g.ms g.u0 X A).mt.isSome:=by
   show _=(tj s.i _ s.mt).isSome
   unfold tj
   cases(aZ g.ms A ((aO X).bl s.i) (jA g.u0 (aK X s.i) s.mt.isSome s.l)).2<;>cases s.mt<;>rfl
  rw[e2]at hm;exact hm
 ·have:(aO X).ahead (s.i+1)=(aO X).bl s.i:=by unfold CX.ahead;rw[if_neg (by omega)];rfl
  show pD g.ms ((aO X).ahead (s.i+1)) ((aO X).bl s.i)
  rw[this];exact fun _ _ _ _ _=>rfl
 ·refine⟨hc.aB,hc.j7,?_,?_,hc.tl,?_,?_,hc.ov⟩
  ·show c.pl+(d.2:Int)=aK X (s.i+1)
   rw[hp];unfold aK;omega
  ·show max c.re (c.pl+(d.2:Int))=aK X (max s.r (s.i+1))
   rw[GG,hp];rcases Nat.le_total s.r (s.i+1)with h1|h1
   ·have:=fR X h1;rw[Nat.max_eq_right h1];unfold aK;omega
   ·have:=fR X h1;rw[Nat.max_eq_left h1];unfold aK;omega
  ·show(c.md||_)=(tj s.i _ s.mt).isSome
   unfold tj;rw[hc.md]
   cases(aZ g.ms A ((aO X).bl s.i) (jA g.u0 (aK X s.i) s.mt.isSome s.l)).2<;>cases s.mt<;>rfl
  ·intro a j hm;have fS:tj s.i (aZ g.ms A ((aO X).bl s.i) (jA g.u0 (aK X s.i) s.mt.isSome s.l)).2 s.mt=some (a,j):=hm;unfold tj at fS;unfold FC.step
   cases hq:(aZ g.ms A ((aO X).bl s.i) (jA g.u0 (aK X s.i) s.mt.isSome s.l)).2 with
   |none=>
    rw[hq]at fS;simp only[Option.map_none,Ee]at fS;exact hc.mt a j fS
   |some q=>
    rw[hq]at fS;simp only[C9,Ed,Ba,Cm]at fS;refine⟨by simp only[Fc,if_true,Dr];exact fS.1,?_⟩;simp only[Fc,if_true];rw[hc.pl,fS.2]
 ·exact hS.dA.kept.mono (fun i hi=>hi.elim Or.inl (fun h=>Or.inr (Or.inl h)))
 ·intro i hi;rcases hi with hi|hi|hi
  ·rcases hS.dA.aj i hi with(h|h)|h
   ·exact Or.inl (Or.inl h)
   ·exact Or.inl (Or.inr (Or.inl h))
   ·exact Or.inr h
  ·exact Or.inl (Or.inr (Or.inl hi))
  ·exact Or.inl (Or.inr (Or.inr hi))
