/- Package whole's  -/
import Derived.Test.YtpdnofhackjfdaaGreatDoorP24
set_option linter.all false
set_option maxRecDepth 100000
set_option maxHeartbeats 8000000
namespace Go.Proofs.YtpdnofhackjfdaaGreatDoor
open Go.Proofs.Tryz
open Go.RowKit Go.Maps
variable {N k n:Nat} {w:World}
def Zg(b:Nat)(sv:Value)(st G:Int)(x:CX)(W:World):Prop:=(W.cell? ⟨b,0,none⟩=some sv/\W.cell? ⟨b,1,none⟩=some (.int .i64 st)/\W.cell? ⟨b,2,none⟩=some (.int .i64 G))/\W.cell? ⟨b+1,0,none⟩=some (.string x.s)/\W.cell? ⟨b+1,1,none⟩=some (.int .i64 x.aB)/\W.cell? ⟨b+1,2,none⟩=some (.int .i32 x.ah)/\W.cell? ⟨b+1,3,none⟩=some (.int .i32 x.bh)/\W.cell? ⟨b+1,4,none⟩=some (.bool x.op)
theorem Xa{base:Nat}{v:Value}{L WB:Nat}(h:Ta w base v N L WB)(hN:0<N):∃rh cr,v=.slice (some ⟨rh,0,none⟩) N cr/\base<=rh/\rh<w.heap.size/\∀k,k<N->w.cell? ⟨rh,k,none⟩=some (.slice (some ⟨WB,k*L,none⟩) L L):=by
 obtain⟨g,c,hv,l1,l2,l3,l4,l5⟩:=mG h hN;refine⟨g,c,hv,l1,l2,fun k hk=>?_⟩;rw[l4 k hk];simp[hk,r_]
def OA(b ob:Nat)(sv bv:Value)(W:World):Prop:=W.cell? ⟨b,0,none⟩=some sv/\W.cell? ⟨ob,8,none⟩=some bv
def Zi(b ob fh n cf FB L eU:Nat)(x:CX)(W:World):Prop:=W.cell? ⟨ob,9,none⟩=some (.slice (some ⟨fh,0,none⟩) n cf)/\W.cell? ⟨fh,eU,none⟩=some (.slice (some ⟨FB,eU*L,none⟩) L L)/\W.cell? ⟨b+1,0,none⟩=some (.string x.s)
def Zh(ob fh n cf FB L b rh nr cr WB:Nat)(W:World):Prop:=(W.cell? ⟨ob,9,none⟩=some (.slice (some ⟨fh,0,none⟩) n cf)/\W.cell? ⟨ob,11,none⟩=some (.slice (some ⟨rh,0,none⟩) nr cr))/\W.cell? ⟨fh,b,none⟩=some (.slice (some ⟨FB,b*L,none⟩) L L)/\W.cell? ⟨rh,0,none⟩=some (.slice (some ⟨WB,0,none⟩) L L)
theorem ac0{lo hi mb c:Nat}{vs:List Sv}{ms:List MS}{x:CX}{st G:Int}(hM:jt w lo hi mb c vs ms)(hg:eW ms)(hq:iL G ms)(dw:ms.length<=4001)(hs:x.s.size<=10000000)(I1:0<=x.aB/\x.aB<=1000000000000):
 Calls prog 60 #[.agg #[.slice (some ⟨mb,0,none⟩) ms.length c,.int .i64 st,.int .i64 G],.agg #[.string x.s,.int .i64 x.aB,.int .i32 x.ah,.int .i32 x.bh,.bool x.op]] w fun e w'=>∃(g:OG) (wf wr:List Nat),e=.returned (.pointer (some ⟨g.ob,0,none⟩))/\(g.ms=ms/\g.x=x/\g.st=st/\g.G=G/\g.mb=mb/\g.c=c/\g.vs=vs/\w.heap.size<=g.ob/\w.heap.size<=g.WB/\g.lo=lo/\g.hi=hi/\w.heap.size<=g.cN/\w.heap.size<=g.fh/\w.heap.size<=g.rh/\w.heap.size<=g.FB)/\g.Ok/\oV w' g 0 wf wr/\aa af w w':=by
 have HM:=ab hM;have pH:=ab hg;have HQ:=ab hq;clear hM hg hq;go_in;go_wp2_with fail;have B2:Hid (aq ((w.alloc (.cells #[.slice (some ⟨mb,0,none⟩) ms.length c,.int .i64 st,.int .i64 G] 73)).alloc (.cells #[.string x.s,.int .i64 x.aB,.int .i32 x.ah,.int .i32 x.bh,.bool x.op] 105)) w.heap.size #[.slice (some ⟨mb,0,none⟩) ms.length c,.int .i64 st,.int .i64 G] 73):=(aq.new w _ _).alloc _
 have B3:Hid (aq ((w.alloc (.cells #[.slice (some ⟨mb,0,none⟩) ms.length c,.int .i64 st,.int .i64 G] 73)).alloc (.cells #[.string x.s,.int .i64 x.aB,.int .i32 x.ah,.int .i32 x.bh,.bool x.op] 105)) (w.heap.size+1) #[.string x.s,.int .i64 x.aB,.int .i32 x.ah,.int .i32 x.bh,.bool x.op] 105):=by
  have:=aq.new (w.alloc (.cells #[.slice (some ⟨mb,0,none⟩) ms.length c,.int .i64 st,.int .i64 G] 73)) #[.string x.s,.int .i64 x.aB,.int .i32 x.ah,.int .i32 x.bh,.bool x.op] 105;rw[fO]at this;exact this
 have K1:Hid (aa af w ((w.alloc (.cells #[.slice (some ⟨mb,0,none⟩) ms.length c,.int .i64 st,.int .i64 G] 73)).alloc (.cells #[.string x.s,.int .i64 x.aB,.int .i32 x.ah,.int .i32 x.bh,.bool x.op] 105))):=((aa.refl af w).alloc _).alloc _;have cU:((w.alloc (.cells #[.slice (some ⟨mb,0,none⟩) ms.length c,.int .i64 st,.int .i64 G] 73)).alloc (.cells #[.string x.s,.int .i64 x.aB,.int .i32 x.ah,.int .i32 x.bh,.bool x.op] 105)).heap.size=w.heap.size+1+1:=by simp
 generalize((w.alloc (.cells #[.slice (some ⟨mb,0,none⟩) ms.length c,.int .i64 st,.int .i64 G] 73)).alloc (.cells #[.string x.s,.int .i64 x.aB,.int .i32 x.ah,.int .i32 x.bh,.bool x.op] 105))=w1 at*
 have PS:Hid (∀W,aa af w1 W->Zg w.heap.size (.slice (some ⟨mb,0,none⟩) ms.length c) st G x W):=fun W k=>by
  have b2:=B2.o.kept k (fun h=>h);have b3:=B3.o.kept k (fun h=>h);exact⟨⟨b2.cell 0,b2.cell 1,b2.cell 2⟩,b3.cell 0,b3.cell 1,b3.cell 2,b3.cell 3,b3.cell 4⟩
 have ak:=PS.o w1.drew (aa.refl af w1).drew;refine j9 (gW (S:=Zg w.heap.size (.slice (some ⟨mb,0,none⟩) ms.length c) st G x) 7 (by kernel_rfl) rfl rfl rfl (by kernel_rfl) (by kernel_rfl) ?_);refine ai 0 9 (.agg #[.slice (some ⟨mb,0,none⟩) ms.length c,.int .i64 st,.int .i64 G]) ak ?_;refine ai 1 10 (.agg #[.string x.s,.int .i64 x.aB,.int .i32 x.ah,.int .i32 x.bh,.bool x.op]) ak ?_;refine ai 2 11 (.pointer (some ⟨w.heap.size+1,0,none⟩)) ak ?_;refine ai 3 12 (.string x.s) ak ?_;simp only[Act.put,Aa,Ad,Ac];refine bQ 4 fun K hK=>?_
 have F:=ab (af8 x.s w1.drew (by omega));go_simp;refine(F.o).mono ?_;rintro e w2 ⟨bv,aD,rfl,k2,dO,mT⟩;dsimp only;have K2:Hid (aa af w1 w2):=(aa.refl af w1).drew.trans k2;refine hK.o _ _ (PS.o _ K2.o) (fun _=>?_);clear hK K F;have aqO:=mT.cA;obtain⟨cN,cb,sN,l1,l2,l3,l4,l5⟩:=mG dO (by omega);subst sN;have apY:w.heap.size+1+1<=cN:=by have:w1.drew.heap.size=w1.heap.size:=rfl;omega
 have xQ:=ab mT;have Yp:Hid (∀k,k<aD.length->w2.cell? ⟨cN,k,none⟩=some (.int .i64 (bd x.s (aD.getD k 0):Int))):=fun k hk=>by rw[l4 k hk,ZV hk]
 clear mT dO l4 l5 l1 l3 k2 ak;refine bQ 5 fun K hK=>?_
 go_simp;refine hK.o _ _ (PS.o _ K2.o) (fun _=>?_);clear hK K;refine bQ 6 fun K hK=>?_
 go_simp;have kB:aa af w2 (w2.alloc (.cells #[.slice (some ⟨mb,0,none⟩) ms.length c,.int .i64 st,.int .i64 G,.string x.s,.int .i64 x.aB,.int .i32 x.ah,.int .i32 x.bh,.bool x.op,.slice (some ⟨cN,0,none⟩) aD.length cb,.slice none 0 0,.int .i64 0,.slice none 0 0] 170)):=(aa.refl af w2).alloc _;refine hK.o _ _ (PS.o _ (K2.o.trans kB)) (fun _=>?_);clear hK K;have B5:Hid (aq (w2.alloc (.cells #[.slice (some ⟨mb,0,none⟩) ms.length c,.int .i64 st,.int .i64 G,.string x.s,.int .i64 x.aB,.int .i32 x.ah,.int .i32 x.bh,.bool x.op,.slice (some ⟨cN,0,none⟩) aD.length cb,.slice none 0 0,.int .i64 0,.slice none 0 0] 170)) w2.heap.size (Hg (.slice (some ⟨mb,0,none⟩) ms.length c) st G x (.slice (some ⟨cN,0,none⟩) aD.length cb) (.slice none 0 0) 0 (.slice none 0 0)) 170):=aq.new w2 _ _;have rL:(w2.alloc (.cells #[.slice (some ⟨mb,0,none⟩) ms.length c,.int .i64 st,.int .i64 G,.string x.s,.int .i64 x.aB,.int .i32 x.ah,.int .i32 x.bh,.bool x.op,.slice (some ⟨cN,0,none⟩) aD.length cb,.slice none 0 0,.int .i64 0,.slice none 0 0] 170)).heap.size=w2.heap.size+1:=fO _ _;have R5:Hid (aq (w2.alloc (.cells #[.slice (some ⟨mb,0,none⟩) ms.length c,.int .i64 st,.int .i64 G,.string x.s,.int .i64 x.aB,.int .i32 x.ah,.int .i32 x.bh,.bool x.op,.slice (some ⟨cN,0,none⟩) aD.length cb,.slice none 0 0,.int .i64 0,.slice none 0 0] 170)) w.heap.size #[.slice (some ⟨mb,0,none⟩) ms.length c,.int .i64 st,.int .i64 G] 73):=B2.o.kept (K2.o.trans kB) (fun h=>h);have R7:Hid (aq (w2.alloc (.cells #[.slice (some ⟨mb,0,none⟩) ms.length c,.int .i64 st,.int .i64 G,.string x.s,.int .i64 x.aB,.int .i32 x.ah,.int .i32 x.bh,.bool x.op,.slice (some ⟨cN,0,none⟩) aD.length cb,.slice none 0 0,.int .i64 0,.slice none 0 0] 170)) (w.heap.size+1) #[.string x.s,.int .i64 x.aB,.int .i32 x.ah,.int .i32 x.bh,.bool x.op] 105):=B3.o.kept (K2.o.trans kB) (fun h=>h);have K3:Hid (aa af w (w2.alloc (.cells #[.slice (some ⟨mb,0,none⟩) ms.length c,.int .i64 st,.int .i64 G,.string x.s,.int .i64 x.aB,.int .i32 x.ah,.int .i32 x.bh,.bool x.op,.slice (some ⟨cN,0,none⟩) aD.length cb,.slice none 0 0,.int .i64 0,.slice none 0 0] 170))):=(K1.o.trans K2.o).trans kB;have Yq:Hid (∀k,k<aD.length->(w2.alloc (.cells #[.slice (some ⟨mb,0,none⟩) ms.length c,.int .i64 st,.int .i64 G,.string x.s,.int .i64 x.aB,.int .i32 x.ah,.int .i32 x.bh,.bool x.op,.slice (some ⟨cN,0,none⟩) aD.length cb,.slice none 0 0,.int .i64 0,.slice none 0 0] 170)).cell? ⟨cN,k,none⟩=some (.int .i64 (bd x.s (aD.getD k 0):Int))):=fun k hk=>(kB.cell (p:=⟨cN,k,none⟩) l2 (fun h=>h)).trans (Yp.o k hk)
 refine At (by kernel_rfl) ?_ _;unfold eN;simp only[Ak,Ah,Ai];go_simp;refine jy ?_;have gg:=K2.o.size;generalize w2.alloc (.cells #[.slice (some ⟨mb,0,none⟩) ms.length c,.int .i64 st,.int .i64 G,.string x.s,.int .i64 x.aB,.int .i32 x.ah,.int .i32 x.bh,.bool x.op,.slice (some ⟨cN,0,none⟩) aD.length cb,.slice none 0 0,.int .i64 0,.slice none 0 0] 170)=w3 at*;clear kB PS B2 B3 K1 K2 Yp;obtain⟨ob,kx⟩:∃ob,ob=w2.heap.size:=⟨_,rfl⟩
 rw[<-kx]at B5 rL l2 gg⊢;have aqB:ob<w3.heap.size/\w3.heap.size<=ob+1:=by omega
 have abV:w.heap.size+1+1<=w1.heap.size:=by omega
 clear kx rL cU;obtain⟨nr,Ot⟩:∃nr,Hid (nr=min x.s.size 4100+1):=⟨_,(rfl:_=_)⟩
 have hnr:nr<=4101:=by have:=Ot.o;omega
 have Mu:0<nr:=by have:=Ot.o;omega
 have Vp:min (x.s.size:Int) 4100+1=(nr:Int):=by have:=Ot.o;omega
 obtain⟨L,HL⟩:∃L,Hid (L=ms.length/64+1):=⟨_,(rfl:_=_)⟩
 have cs:w3.cell? ⟨w.heap.size+1,0,none⟩=some (.string x.s):=R7.o.cell 0;have cm:w3.cell? ⟨w.heap.size,0,none⟩=some (.slice (some ⟨mb,0,none⟩) ms.length c):=R5.o.cell 0;have F:=ab (Wt nr ms.length L HL.o (by omega) dw w3);go_wp2_with fail;refine(F.o).mono ?_;rintro e w4 ⟨rv,rfl,dO,hbW,k4⟩;obtain⟨rh,cr,hrv,r1,r2,hrc⟩:=Xa dO Mu;subst hrv;have NT:=B5.o.kept k4 (fun h=>h);have Z5:w4.cell? ⟨ob,11,none⟩=some (.slice none 0 0):=NT.cell 11;have f11:=NT.frozen 11;have kS:aa (fun i=>i=ob) w4 (w4.setCell ⟨ob,11,none⟩ (.slice (some ⟨rh,0,none⟩) nr cr)):=(aa.refl (fun i=>i=ob) w4).setCell (p:=⟨ob,11,none⟩) (Or.inl rfl) _;have rM:=k4.size;have aqQ:w.heap.size+1+1<=ob:=by omega
 have Sa:Hid (aq (w4.setCell ⟨ob,11,none⟩ (.slice (some ⟨rh,0,none⟩) nr cr)) ob (Hg (.slice (some ⟨mb,0,none⟩) ms.length c) st G x (.slice (some ⟨cN,0,none⟩) aD.length cb) (.slice none 0 0) 0 (.slice (some ⟨rh,0,none⟩) nr cr)) 170):=by
  have:=NT.setCell 11 (.slice (some ⟨rh,0,none⟩) nr cr);show aq _ _ _ _
  simpa[Hg]using this
 have K5:Hid (aa af w (w4.setCell ⟨ob,11,none⟩ (.slice (some ⟨rh,0,none⟩) nr cr))):=(K3.o.trans k4).bZ kS (fun i hi e=>by omega);have R6:=ab ((R5.o.kept k4 (fun h=>h)).kept kS (by omega));have XR:=ab ((R7.o.kept k4 (fun h=>h)).kept kS (by omega));have Yr:Hid (∀k,k<aD.length->(w4.setCell ⟨ob,11,none⟩ (.slice (some ⟨rh,0,none⟩) nr cr)).cell? ⟨cN,k,none⟩=some (.int .i64 (bd x.s (aD.getD k 0):Int))):=fun k hk=>(kS.cell (p:=⟨cN,k,none⟩) (by show cN<_;omega) (by show¬cN=ob;omega)).trans ((k4.cell (p:=⟨cN,k,none⟩) (by show cN<_;omega) (fun h=>h)).trans (Yq.o k hk))
 have YX:Hid (∀k,k<nr->(w4.setCell ⟨ob,11,none⟩ (.slice (some ⟨rh,0,none⟩) nr cr)).cell? ⟨rh,k,none⟩=some (.slice (some ⟨w3.heap.size,k*L,none⟩) L L)):=fun k hk=>(kS.cell (p:=⟨rh,k,none⟩) r2 (by show¬rh=ob;omega)).trans (hrc k hk)
 have Yk:=ab (hbW.kept kS (by omega));have QA:(w4.setCell ⟨ob,11,none⟩ (.slice (some ⟨rh,0,none⟩) nr cr)).heap.size=w4.heap.size:=by simp[World.setCell]
 clear dO hrc hbW k4 NT kS F R5 R7 K3 Yq B5 cs cm;go_wp2_with fail;generalize w4.setCell ⟨ob,11,none⟩ (.slice (some ⟨rh,0,none⟩) nr cr)=w5 at*;rw[<-QA]at r2 rM;clear QA;have zD:Hid (∀W,aa af w5 W->OA w.heap.size ob (.slice (some ⟨mb,0,none⟩) ms.length c) (.slice (some ⟨cN,0,none⟩) aD.length cb) W):=fun W k=>⟨(R6.o.kept k (fun h=>h)).cell 0,(Sa.o.kept k (fun h=>h)).cell 8⟩
 have ak:=zD.o w5.drew (aa.refl af w5).drew;have aqa:=xQ.o.bJ;refine j9 (gW (S:=OA w.heap.size ob (.slice (some ⟨mb,0,none⟩) ms.length c) (.slice (some ⟨cN,0,none⟩) aD.length cb)) 12 (by kernel_rfl) rfl rfl rfl (by kernel_rfl) (by kernel_rfl) ?_);refine ai 0 28 (.pointer (some ⟨ob,0,none⟩)) ak ?_;refine ai 1 29 (.pointer (some ⟨ob,0,none⟩)) ak ?_;refine ai 2 30 (.pointer (some ⟨ob,0,none⟩)) ak ?_;refine ai 3 31 (.pointer (some ⟨ob,8,none⟩)) ak ?_;refine ai 4 32 (.slice (some ⟨cN,0,none⟩) aD.length cb) ak ?_;refine ai 5 33 (.int .i64 (aD.length:Int)) ak ?_;refine ai 6 34 (.pointer (some ⟨w.heap.size,0,none⟩)) ak ?_;refine ai 7 35 (.slice (some ⟨mb,0,none⟩) ms.length c) ak ?_;refine ai 8 36 (.int .i64 (ms.length:Int)) ak ?_;simp only[Act.put,Aa,Ad,Ac];refine bQ 9 fun K hK=>?_
 have F:=ab (Wt aD.length ms.length L HL.o (by omega) dw w5.drew);go_simp;refine(F.o).mono ?_;rintro e w6 ⟨fv,rfl,dO,UM,k6⟩;dsimp only;have xo:aa af w5 w6:=(aa.refl af w5).drew.trans k6;have aix:w5.drew.heap.size=w5.heap.size:=rfl;rw[aix]at dO UM;obtain⟨fh,cf,U3,q1,q2,I7⟩:=Xa dO (by omega);subst U3;have tJ:=ab xo;refine hK.o _ _ (zD.o _ tJ.o) (fun _=>?_);clear hK K F;refine bQ 10 fun K hK=>?_
 go_simp;refine hK.o _ _ (zD.o _ tJ.o) (fun _=>?_);clear hK K;refine bQ 11 fun K hK=>?_
 go_simp;refine hK.o _ _ (zD.o _ tJ.o) (fun _=>?_);clear hK K;refine At (by kernel_rfl) ?_ _;unfold eN;simp only[Ak,Ah,Ai];have NU:=Sa.o.kept xo (fun h=>h);have c9:w6.cell? ⟨ob,9,none⟩=some (.slice none 0 0):=NU.cell 9;have f9:=NU.frozen 9;have kS:aa (fun i=>i=ob) w6 (w6.setCell ⟨ob,9,none⟩ (.slice (some ⟨fh,0,none⟩) aD.length cf)):=(aa.refl (fun i=>i=ob) w6).setCell (p:=⟨ob,9,none⟩) (Or.inl rfl) _;have VA:=xo.size
 have Sb:Hid (aq (w6.setCell ⟨ob,9,none⟩ (.slice (some ⟨fh,0,none⟩) aD.length cf)) ob (Hg (.slice (some ⟨mb,0,none⟩) ms.length c) st G x (.slice (some ⟨cN,0,none⟩) aD.length cb) (.slice (some ⟨fh,0,none⟩) aD.length cf) 0 (.slice (some ⟨rh,0,none⟩) nr cr)) 170):=by
  have:=NU.setCell 9 (.slice (some ⟨fh,0,none⟩) aD.length cf);show aq _ _ _ _
  simpa[Hg]using this
 have K7:Hid (aa af w (w6.setCell ⟨ob,9,none⟩ (.slice (some ⟨fh,0,none⟩) aD.length cf))):=(K5.o.trans xo).bZ kS (fun i hi e=>by omega);have XQ:=ab ((R6.o.kept xo (fun h=>h)).kept kS (by omega));have XS:=ab ((XR.o.kept xo (fun h=>h)).kept kS (by omega));have Ys:Hid (∀k,k<aD.length->(w6.setCell ⟨ob,9,none⟩ (.slice (some ⟨fh,0,none⟩) aD.length cf)).cell? ⟨cN,k,none⟩=some (.int .i64 (bd x.s (aD.getD k 0):Int))):=fun k hk=>(kS.cell (p:=⟨cN,k,none⟩) (by show cN<_;omega) (by show¬cN=ob;omega)).trans ((xo.cell (p:=⟨cN,k,none⟩) (by show cN<_;omega) (fun h=>h)).trans (Yr.o k hk))
 have YY:Hid (∀k,k<nr->(w6.setCell ⟨ob,9,none⟩ (.slice (some ⟨fh,0,none⟩) aD.length cf)).cell? ⟨rh,k,none⟩=some (.slice (some ⟨w3.heap.size,k*L,none⟩) L L)):=fun k hk=>(kS.cell (p:=⟨rh,k,none⟩) (by show rh<_;omega) (by show¬rh=ob;omega)).trans ((xo.cell (p:=⟨rh,k,none⟩) r2 (fun h=>h)).trans (YX.o k hk))
 have Yv:Hid (∀k,k<aD.length->(w6.setCell ⟨ob,9,none⟩ (.slice (some ⟨fh,0,none⟩) aD.length cf)).cell? ⟨fh,k,none⟩=some (.slice (some ⟨w5.heap.size,k*L,none⟩) L L)):=fun k hk=>(kS.cell (p:=⟨fh,k,none⟩) q2 (by show¬fh=ob;omega)).trans (I7 k hk)
 have Yl:=ab ((Yk.o.kept xo (fun h=>h)).kept kS (by omega));have Ye:=ab (UM.kept kS (by omega));have Jj:(w6.setCell ⟨ob,9,none⟩ (.slice (some ⟨fh,0,none⟩) aD.length cf)).heap.size=w6.heap.size:=by simp[World.setCell]
 clear dO I7 UM k6 xo NU kS tJ zD ak R6 XR Sa K5 Yr YX Yk;go_simp;refine jy ?_;generalize w6.setCell ⟨ob,9,none⟩ (.slice (some ⟨fh,0,none⟩) aD.length cf)=w7 at*;rw[<-Jj]at q2 VA;clear c9 f9 Jj;go_wp2_with fail;have S_:Hid (∀W,aa af w7 W->OA w.heap.size ob (.slice (some ⟨mb,0,none⟩) ms.length c) (.slice (some ⟨cN,0,none⟩) aD.length cb) W):=fun W k=>⟨(XQ.o.kept k (fun h=>h)).cell 0,(Sb.o.kept k (fun h=>h)).cell 8⟩
 have ak:=S_.o w7.drew (aa.refl af w7).drew;obtain⟨eU,DI⟩:∃eU,Hid (aD.length=eU+1):=⟨aD.length-1,by show _=_;omega⟩
 refine j9 (Ch (by kernel_rfl) (Cc (S:=OA w.heap.size ob (.slice (some ⟨mb,0,none⟩) ms.length c) (.slice (some ⟨cN,0,none⟩) aD.length cb)) _ _ _ _ ?_));refine ai 0 40 (.pointer (some ⟨ob,0,none⟩)) ak ?_;refine ai 1 41 (.pointer (some ⟨ob,0,none⟩)) ak ?_;refine ai 2 42 (.pointer (some ⟨ob,8,none⟩)) ak ?_;refine ai 3 43 (.slice (some ⟨cN,0,none⟩) aD.length cb) ak ?_;refine ai 4 44 (.int .i64 (aD.length:Int)) ak ?_;refine pA 5 45 (.int .i64 (eU:Int)) rfl rfl (by kernel_rfl) (by kernel_rfl) (by kernel_rfl) (fun _ _ _ h=>h) (Or.inl ⟨by rfl,fun W eT=>by obtain⟨s0,s1⟩:=eT;go_simp;rw[Cx];have:=DI.o;omega⟩) ak ?_;refine ai 6 46 (.pointer (some ⟨w.heap.size,0,none⟩)) ak ?_;refine ai 7 47 (.slice (some ⟨mb,0,none⟩) ms.length c) ak ?_;refine ai 8 48 (.int .i64 (ms.length:Int)) ak ?_;simp only[Act.put,Aa,Ad,Ac];refine bQ 9 fun K hK=>?_
 have F:Hid (Calls prog 86 #[.int .i64 1,.int .i64 (ms.length:Int)] w7.drew _):=Wt 1 ms.length L HL.o (by omega) dw w7.drew;go_simp;refine(F.o).mono ?_;rintro e w8 ⟨nv,rfl,dO,PM,k8⟩;dsimp only;have vJ:aa af w7 w8:=(aa.refl af w7).drew.trans k8;have aiB:w7.drew.heap.size=w7.heap.size:=rfl;rw[aiB]at dO PM;obtain⟨nh,cn,Mw,n1,n2,Jd⟩:=Xa dO (by omega);subst Mw;have cn0:w8.cell? ⟨nh,0,none⟩=some (.slice (some ⟨w7.heap.size,0,none⟩) L L):=by have:=Jd 0 (by omega);rw[Fh]at this;exact this
 rw[Nat.one_mul]at PM;have Y7:=ab vJ;have wT:=S_.o _ Y7.o;refine hK.o _ _ wT (fun _=>?_);clear hK K F;refine ai 12 6 (.int .i64 (eU:Int)) wT ?_;simp only[Act.put,Aa,Ad,Ac];refine bQ 10 fun K hK=>?_
 go_simp;refine hK.o _ _ wT (fun _=>?_);clear hK K;refine bQ 11 fun K hK=>?_
 go_simp;refine hK.o _ _ wT (fun _=>?_);clear hK K;refine bQ 13 fun K hK=>?_
 go_simp;refine hK.o _ _ wT (fun _=>?_);clear hK K;refine At (by kernel_rfl) ?_ _;refine jy ?_;have hs8:=vJ.size;have hTl:=HM.o.j8.lt;have hMl:=HM.o.iw.lt;have hHl:=HM.o.le;have K8:=ab (K7.o.trans vJ);have aqd:=K8.o.size;obtain⟨g,iI⟩:∃g:OG,g=⟨ob,lo,hi,mb,c,vs,ms,x,st,G,cN,cb,aD,fh,cf,w5.heap.size,rh,cr,w3.heap.size,nr,L⟩:=⟨_,rfl⟩
 have Ko:Hid g.Ok:=by
  rw[iI];exact{fL:=pH.o,q:=HQ.o,bJ:=dw,size:=hs,aB:=I1,Iq:=HL.o,bg:=xQ.o,ac5:=Ot.o,OT:=⟨by show w5.heap.size≠ob;omega,by show w5.heap.size≠mb;omega,by show¬(lo<=w5.heap.size/\w5.heap.size<hi);omega,by show w5.heap.size≠_;omega,by show w5.heap.size≠_;omega⟩,Lf:=⟨by show w3.heap.size≠ob;omega,by show w3.heap.size≠mb;omega,by show¬(lo<=w3.heap.size/\w3.heap.size<hi);omega,by show w3.heap.size≠_;omega,by show w3.heap.size≠_;omega⟩,ID:=⟨by show ob≠mb;omega,by show¬(lo<=ob/\ob<hi);omega,by show ob≠_;omega,by show ob≠_;omega⟩,ne:=⟨by show w3.heap.size≠w5.heap.size;omega,⟨by show w3.heap.size≠cN;omega,by show w3.heap.size≠fh;omega,by show w3.heap.size≠rh;omega⟩,⟨by show w5.heap.size≠cN;omega,by show w5.heap.size≠fh;omega,by show w5.heap.size≠rh;omega⟩,⟨by show ob≠cN;omega,by show ob≠fh;omega,by show ob≠rh;omega⟩⟩}
 have wH:Hid (il w8 g 0 (List.replicate (aD.length*L) 0) (List.replicate (nr*L) 0)):=by
  rw[iI];have M8:=HM.o.kept K8.o;exact{rk:=⟨Sb.o.kept vJ (fun h=>h),M8.iw,M8.we,M8.le,M8.j8⟩,bg:=fun k hk=>(vJ.cell (p:=⟨cN,k,none⟩) (by show cN<_;omega) (fun h=>h)).trans (Ys.o k hk),fh:=fun k hk=>(vJ.cell (p:=⟨fh,k,none⟩) q2 (fun h=>h)).trans (Yv.o k hk),rh:=fun k hk=>(vJ.cell (p:=⟨rh,k,none⟩) (by show rh<_;omega) (fun h=>h)).trans (YY.o k hk),lt:=⟨by show cN<_;omega,by show fh<_;omega,by show rh<_;omega⟩,bf:=Ye.o.kept vJ (fun h=>h),bw:=Yl.o.kept vJ (fun h=>h),fl:=⟨by simp,fY.J4 _⟩,wl:=⟨by simp,fY.J4 _⟩}
 have NS:=ab (XS.o.kept vJ (fun h=>h));have wt:=ab PM;have Tz:w8.cell? ⟨w.heap.size+1,4,none⟩=some (.bool x.op):=NS.o.cell 4;have qA:g.ob=ob/\g.fh=fh/\g.aD=aD/\g.cf=cf/\g.FB=w5.heap.size/\g.L=L/\g.rh=rh/\g.nr=nr/\g.cr=cr/\g.WB=w3.heap.size/\g.ms=ms/\g.x=x/\g.st=st/\g.G=G/\g.mb=mb/\g.c=c/\g.vs=vs/\g.lo=lo/\g.hi=hi/\g.cN=cN:=by rw[iI];exact⟨rfl,rfl,rfl,rfl,rfl,rfl,rfl,rfl,rfl,rfl,rfl,rfl,rfl,rfl,rfl,rfl,rfl,rfl,rfl,rfl⟩
 have mK:=ab qA;clear dO Jd k8 vJ Y7 wT ak S_ iI qA PM XQ XS Sb K7 Ys YY Yv Yl Ye cn0
 have OH:Hid (∀w9 aM,aa (fun i=>i=w5.heap.size) w8 w9->aM.length=L->fY aM->aq w9 w5.heap.size (dg (splice (List.replicate (aD.length*L) 0) (eU*L) aM)).toArray 207->(∀u:Nat,u<ms.length->gd aM 0 u=dP ms x u x.n)->∃(aj:Nat) (wf wd:List Nat),il w9 g aj wf wd/\(∀j,eU<=j->j<aD.length->zG g wf j (aD.getD j 0))/\(eU=0->aj=0/\uT g wd 0 (aD.getD 0 0))/\aa af w w9):=fun w9 aM CC fy bj FN vx=>by
  obtain⟨e1,e2,e3,e4,e5,e6,e7,e8,e9,vd,sE,yf,EJ,EK,EM,Ls,Lt,Lu,Lv,Lw⟩:=mK.o;have Jc:=DI.o;have sK:=HL.o
  have tX:eU*L+L<=(List.replicate (aD.length*L) 0).length:=by
   rw[Ck];have:=Bt L (show eU+1<=aD.length by omega);rw[Cs]at this;omega
  have ib:(splice (List.replicate (aD.length*L) 0) (eU*L) aM).length=aD.length*L:=by rw[Dg _ _ _ (by rw[fy];exact tX),Ck]
  refine⟨0,splice (List.replicate (aD.length*L) 0) (eU*L) aM,List.replicate (nr*L) 0,wH.o.aee Ko.o (by rw[e5];exact CC) (by rw[e5];exact FN) ⟨by rw[e3,e6];exact ib,(fY.J4 _).splice bj _⟩,fun j rG lN=>?_,fun h0=>by omega,K8.o.bZ CC (fun i hi he=>by omega)⟩;have hj:j=eU:=by omega
  subst hj;have ub:=xQ.o.eU;rw[show aD.length-1=j by omega]at ub;rw[ub];intro u hu;rw[sE]at hu⊢;rw[e6,yf,O0 (by rw[fy];exact tX) (by rw[fy];omega)];exact vx u hu
 have aqn:1<=eU:=by have:=DI.o;omega
 cases eh:x.op
 all_goals rw[eh]at Tz
 case' false=>
  go_wp2_with fail
  have Zm:Hid (∀W,aa af w8 W->Zi w.heap.size ob fh aD.length cf w5.heap.size L eU x W):=fun W k=>by
   have O:=wH.o.kept k;obtain⟨e1,e2,e3,e4,e5,e6,_⟩:=mK.o;have a1:=O.rk.o.cell 9;have a2:=O.fh eU (by rw[e3];have:=DI.o;omega);rw[e1]at a1;rw[e2,e5,e6]at a2;refine⟨?_,a2,(NS.o.kept k (fun h=>h)).cell 0⟩;rw[a1];show some g.fv=_
   unfold OG.fv;rw[e2,e3,e4]
  have ak:=Zm.o w8.drew (aa.refl af w8).drew;have ub:eU<aD.length:=by have:=DI.o;omega
  refine j9 (gW (S:=Zi w.heap.size ob fh aD.length cf w5.heap.size L eU x) 12 (by kernel_rfl) rfl rfl rfl (by kernel_rfl) (by kernel_rfl) ?_);refine ai 0 62 (.pointer (some ⟨ob,0,none⟩)) ak ?_;refine ai 1 63 (.pointer (some ⟨ob,0,none⟩)) ak ?_;refine ai 2 64 (.pointer (some ⟨ob,0,none⟩)) ak ?_;refine ai 3 65 (.pointer (some ⟨ob,9,none⟩)) ak ?_;refine ai 4 66 (.slice (some ⟨fh,0,none⟩) aD.length cf) ak ?_;refine ai 5 67 (.int .i64 (eU:Int)) ak ?_;refine ai 6 68 (.pointer (some ⟨fh,eU,none⟩)) ak ?_;refine ai 7 69 (.slice (some ⟨w5.heap.size,eU*L,none⟩) L L) ak ?_;refine ai 8 70 (.slice (some ⟨w7.heap.size,0,none⟩) L L) ak ?_;refine ai 9 71 (.pointer (some ⟨w.heap.size+1,0,none⟩)) ak ?_;refine ai 10 72 (.string x.s) ak ?_;refine ai 11 73 (.int .i64 (x.s.size:Int)) ak ?_;simp only[Act.put,Aa,Ad,Ac];refine At (by kernel_rfl) ?_ _;unfold eN;simp only[Ak,Ah,Ai];go_simp;have sK:=HL.o
  have GG:Calls prog 88 #[.pointer (some ⟨ob,0,none⟩),.slice (some ⟨w5.heap.size,eU*L,none⟩) L L,.slice (some ⟨w7.heap.size,0,none⟩) L L,.int .i64 (x.s.size:Int)] w8.drew fun e w'=>e=.returned (.tuple #[])/\aa (fun i=>i=w5.heap.size) w8.drew w'/\∃aM,aM.length=L/\fY aM/\aq w' w5.heap.size (dg (splice (List.replicate (aD.length*L) 0) (eU*L) aM)).toArray 207/\(True->∀u:Nat,u<ms.length->gd aM 0 u=dP ms x u x.n):=by
   obtain⟨e1,e2,e3,e4,e5,e6,e7,e8,e9,vd,sE,yf,EJ,EK,EM,Ls,Lt,Lu,Lv,Lw⟩:=mK.o;have hR:=wH.o.rk.kept ((aa.refl af w8).drew) (fun h=>h) (fun h=>h) (fun _ _ _ h=>h) (fun h=>h) (fun h=>h);have hB:=wH.o.bf;have hA:=Ko.o.OT;have pg:=wH.o.fl.1;rw[e5]at hB hA;rw[sE,yf]at hR;rw[e1]at hR hA
   have tX:eU*L+L<=(List.replicate (aD.length*L) 0).length:=by
    rw[Ck];have:=Bt L (show eU+1<=aD.length by omega);rw[Cs]at this;omega
   have ff:bd x.s (aF x.s).length=x.s.size:=mP (Ab _)
   have:=ad3 (c1:=L) (c2:=L) (i:=(aF x.s).length) (H:=True) (B2:=w7.heap.size) (o2:=0) hR pH.o HQ.o dw (by omega) (show(aF x.s).length<=x.n from Ab _) (by rw[eh,Ew]) sK (show aq w8.drew w5.heap.size (dg (List.replicate (aD.length*L) 0)).toArray 207 from hB) tX hA (by
    intro W aM hk fy bj vy;refine⟨List.replicate L 0,fY.J4 L,fun k ua=>?_,fun _ u hu=>by rw[ZX,show decide ((aF x.s).length<x.n)=false from Bh (Nat.lt_irrefl _),Ew]⟩;have hb:=wt.o.cell k;rw[zi (by rw[Ck];exact ua)]at hb;rw[Bf];exact(hk.cell (p:=⟨w7.heap.size,k,none⟩) (by show w7.heap.size<w8.drew.heap.size;have:=wt.o.lt;exact this) (by show¬w7.heap.size=w5.heap.size;omega)).trans hb)
   rw[ff]at this;exact this
  refine GG.mono ?_;rintro e w9 ⟨rfl,hk9,aM,fy,bj,FN,vx⟩;dsimp only;refine jy ?_;have CC:aa (fun i=>i=w5.heap.size) w8 w9:=(aa.refl (fun i=>i=w5.heap.size) w8).drew.trans hk9;have du:=ab (OH.o w9 aM CC fy bj FN (vx trivial));clear sK GG hk9 FN vx bj fy CC Zm ak wH wt Tz NS OH;go_wp2_with fail
 case' true=>
  have ub:eU<aD.length:=by have:=DI.o;omega
  have r9:w8.cell? ⟨ob,9,none⟩=some (.slice (some ⟨fh,0,none⟩) aD.length cf):=by
   obtain⟨e1,e2,e3,e4,e5,e6,_⟩:=mK.o;have a1:=wH.o.rk.o.cell 9;rw[e1]at a1;rw[a1];show some g.fv=_
   unfold OG.fv;rw[e2,e3,e4]
  have r10:w8.cell? ⟨fh,eU,none⟩=some (.slice (some ⟨w5.heap.size,eU*L,none⟩) L L):=by
   obtain⟨e1,e2,e3,e4,e5,e6,_⟩:=mK.o;have a2:=wH.o.fh eU (by rw[e3];have:=DI.o;omega);rw[e2,e5,e6]at a2;exact a2
  have hi9:¬((aD.length:Int)<=(eU:Int)):=by omega
  have F:=ab fun(W:World) (h:aq W w5.heap.size (dg (List.replicate (aD.length*L) 0)).toArray 207)=>anc (o:=eU*L) (L:=L) (c:=L) h (fY.J4 _) (by
   rw[Ck];have:=Bt L (show eU+1<=aD.length by omega);rw[Cs]at this;omega) (by have:=HL.o;omega)
  have DA:Hid (aq w8 w5.heap.size (dg (List.replicate (aD.length*L) 0)).toArray 207):=by
   obtain⟨e1,e2,e3,e4,e5,_⟩:=mK.o;have:=wH.o.bf;rw[e5]at this;exact this
  go_wp2_with fail
  refine(F.o _ DA.o).mono ?_;rintro e w9 ⟨rfl,CC,aM,fy,bj,FN,vx⟩;have du:=ab (OH.o w9 aM CC fy bj FN (fun u hu=>by rw[vx u (by have:=HL.o;omega),alQ eh (Ab _)]));clear vx bj fy CC FN wH wt Tz NS OH F DA r9 r10 hi9;go_wp2_with fail
 all_goals
  go_loopg [8] eU (fun kk v wq=>∃k:Nat,v=.int .i64 ((k:Int)-1)/\k<=eU/\kk=k/\Hid (∃(aj:Nat) (wf wd:List Nat),il wq g aj wf wd/\(∀j,k<=j->j<aD.length->zG g wf j (aD.getD j 0))/\(k=0->aj=0/\uT g wd 0 (aD.getD 0 0))/\aa af w wq))
  case atStart=>exact⟨eU,rfl,Ab _,rfl,du⟩
  case round=>
   obtain⟨k,rfl,hk,eZ,HI⟩:=hrel;clear du;by_cases vD:0<k
   ·obtain⟨m,rfl⟩:∃m,k=m+1:=⟨k-1,by omega⟩
    have em:((m+1:Nat):Int)-1=(m:Int):=(by omega);rw[em];have ia:(0:Int)<=(m:Int):=(by omega);have yz:m<aD.length:=(by omega);obtain⟨aj,wf,wd,hO,hF,hZ,IU⟩:=HI.o
    have F:Calls prog 89 #[.pointer (some ⟨ob,0,none⟩),.int .i64 (m:Int)] wr fun e w'=>e=.returned (.tuple #[])/\∃p_,il w' g m wf p_/\uT g p_ m (g.aD.getD m 0)/\aa (fun i=>i=g.ob\/i=g.WB) wr w':=by
     obtain⟨e1,e2,e3,e4,e5,e6,e7,e8,e9,vd,sE,yf,EJ,EK,EM,Ls,Lt,Lu,Lv,Lw⟩:=mK.o;have:=acD Ko.o hO (b:=m) (by rw[e3];omega) (by rw[e3];exact hF (m+1) (Ab _) (by omega));rw[e1]at this⊢;exact this
    have Km:=ab hF;have YL:=ab IU;have F:=ab F;clear hO hF hZ IU HI em;go_wp2_with fail;refine(F.o).mono ?_;rintro e Hx ⟨rfl,p_,PB,LW,k10⟩;have qg:=ab PB;have qh:=ab LW
    have OE:Hid (∀W,aa af Hx W->Zh ob fh aD.length cf w5.heap.size L m rh nr cr w3.heap.size W):=fun W kW=>by
     have O:=qg.o.kept kW;obtain⟨e1,e2,e3,e4,e5,e6,e7,e8,e9,vd,_⟩:=mK.o;have a1:=O.rk.o.cell 9;have a2:=O.rk.o.cell 11;have a3:=O.fh m (by rw[e3];omega);have a4:=O.rh 0 (by rw[e8];omega);rw[e1]at a1 a2;rw[e2,e5,e6]at a3;rw[e7,vd,e6]at a4;refine⟨⟨?_,?_⟩,a3,?_⟩
     ·rw[a1];show some g.fv=_;unfold OG.fv;rw[e2,e3,e4]
     ·rw[a2];show some g.rv=_;unfold OG.rv;rw[e7,e8,e9]
     ·rw[a4];unfold r_;rw[Fh]
    have ak:=OE.o Hx.drew (aa.refl af Hx).drew;have YH:=ab k10;clear PB LW k10 F;go_wp2_with fail;refine j9 (gW (S:=Zh ob fh aD.length cf w5.heap.size L m rh nr cr w3.heap.size) 13 (by kernel_rfl) rfl rfl rfl (by kernel_rfl) (by kernel_rfl) ?_);refine ai 0 84 (.pointer (some ⟨ob,0,none⟩)) ak ?_;refine ai 1 85 (.pointer (some ⟨ob,0,none⟩)) ak ?_;refine ai 2 86 (.pointer (some ⟨ob,9,none⟩)) ak ?_;refine ai 3 87 (.slice (some ⟨fh,0,none⟩) aD.length cf) ak ?_;refine ai 4 88 (.int .i64 (m:Int)) ak ?_;refine ai 5 89 (.pointer (some ⟨fh,m,none⟩)) ak ?_;refine ai 6 90 (.slice (some ⟨w5.heap.size,m*L,none⟩) L L) ak ?_;refine ai 7 91 (.pointer (some ⟨ob,0,none⟩)) ak ?_;refine ai 8 92 (.pointer (some ⟨ob,0,none⟩)) ak ?_;refine ai 9 93 (.pointer (some ⟨ob,11,none⟩)) ak ?_;refine ai 10 94 (.slice (some ⟨rh,0,none⟩) nr cr) ak ?_;refine ai 11 95 (.pointer (some ⟨rh,0,none⟩)) ak ?_;refine ai 12 96 (.slice (some ⟨w3.heap.size,0,none⟩) L L) ak ?_;simp only[Act.put,Aa,Ad,Ac];refine At (by kernel_rfl) ?_ _;unfold eN;refine afl (.tmp 90) (.tmp 96) 173 173 rfl 207 underlying173 (by kernel_rfl) w5.heap.size (m*L) L L L w3.heap.size 0 rfl rfl wf 207 ?l0 (kZ p_ 0 L) ?l1 ?l2 ?l3 ?_
    case l0=>
     have:=qg.o.bf;rw[mK.o.2.2.2.2.1]at this;exact this
    case l1=>
     refine JT ?_;have:=qg.o.wl.1;rw[mK.o.2.2.2.2.2.2.2.1,mK.o.2.2.2.2.2.1]at this;have h2:=Bt L Mu;omega
    case l2=>
     intro q hq;have h1:=qg.o.wl.1;rw[mK.o.2.2.2.2.2.2.2.1,mK.o.2.2.2.2.2.1]at h1;have h2:=Bt L Mu;have h3:=qg.o.bw.cell q;rw[mK.o.2.2.2.2.2.2.2.2.2.1,zi (by omega)]at h3;rw[Rx hq,Bf];exact h3
    case l3=>
     have h1:=qg.o.fl.1;rw[mK.o.2.2.1,mK.o.2.2.2.2.2.1]at h1;have:=Bt L (show m+1<=aD.length by omega);rw[Cs]at this;omega
    intro XK UK abE;have V0:aa (fun i=>i=w5.heap.size) Hx XK:=(aa.refl (fun i=>i=w5.heap.size) Hx).drew.trans abE
    have ax:Hid (∃(aj:Nat) (wf wd:List Nat),il XK g aj wf wd/\(∀j,m<=j->j<aD.length->zG g wf j (aD.getD j 0))/\(m=0->aj=0/\uT g wd 0 (aD.getD 0 0))/\aa af w XK):=by
     obtain⟨e1,e2,e3,e4,e5,e6,e7,e8,e9,vd,sE,yf,EJ,EK,EM,Ls,Lt,Lu,Lv,Lw⟩:=mK.o;have h1:=qg.o.fl.1;rw[e3,e6]at h1;have h2:=qg.o.wl.1;rw[e8,e6]at h2;have h3:=Bt L (show m+1<=aD.length by omega);rw[Cs]at h3;have h4:=Bt L Mu;have VC:(kZ p_ 0 L).length=L:=JT (by omega);have ib:(splice wf (m*L) (kZ p_ 0 L)).length=aD.length*L:=by rw[Dg _ _ _ (by omega)];exact h1
     have hLe:=HL.o;refine⟨m,splice wf (m*L) (kZ p_ 0 L),p_,qg.o.aee Ko.o (by rw[e5];exact V0) (by rw[e5];exact UK) ⟨by rw[e3,e6];exact ib,qg.o.fl.2.splice (qg.o.wl.2.kZ _ _) _⟩,fun j rG lN u hu=>?_,fun h0=>⟨h0,by have:=qh.o;rw[e3]at this;rw[h0]at this;exact this⟩,(YL.o.bZ YH.o (fun i hi he=>by rw[e1,vd]at he;omega)).bZ V0 (fun i hi he=>by omega)⟩;rw[sE]at hu;by_cases ej:j=m
     ·subst ej;rw[e6,O0 (by omega) (by omega),Tt (by omega)];have:=qh.o (aD.getD j 0) (by rw[e3];exact Ab _) (by rw[e3];exact(xQ.o.step j (by omega)).1) u (by rw[sE];exact hu);have ez:bd g.x.s (aD.getD j 0)-g.from j=0:=by unfold OG.from;rw[e3];omega
      rw[ez,Fh]at this;exact this
     ·have tW:=W_ (L:=L) (fun h=>ej h.symm:m≠j);have:=Km.o j (by omega) lN u (by rw[sE];exact hu);rw[e6]at this⊢;rw[ZW (L:=L) (by omega) (by omega) (by omega)];exact this
    clear UK abE V0 OE ak qg qh YH Km YL;simp only[Ak,Ah,Ai,Act.put,Aa,Ad,Ac];refine jy ?_;go_wp2_with fail;go_roundg m
    case measure=>omega
    case rel=>exact⟨m,rfl,by omega,rfl,ax⟩
   ·have ajb:k=0:=(by omega);subst ajb
    have ax:Hid (∃(wf wd:List Nat),oV wr g 0 wf wd/\aa af w wr):=by
     obtain⟨aj,wf,wd,hO,hF,hZ,IU⟩:=HI.o;obtain⟨e1,e2,e3,_⟩:=mK.o;obtain⟨rfl,hZ2⟩:=hZ rfl;exact⟨wf,wd,⟨hO,by rw[e3];omega,fun j hj=>by rw[e3]at hj⊢;exact hF j (Ao _) hj,by rw[e3];exact hZ2⟩,IU⟩
    clear HI;go_wp2_with fail;go_ret;obtain⟨wf,wd,hO,IU⟩:=ax.o;obtain⟨e1,e2,e3,e4,e5,e6,e7,e8,e9,vd,sE,yf,EJ,EK,EM,Ls,Lt,Lu,Lv,Lw⟩:=mK.o;refine⟨g,wf,wd,by rw[e1];rfl,⟨sE,yf,EJ,EK,EM,Ls,Lt,by rw[e1];omega,by rw[vd];omega,Lu,Lv,by rw[Lw];omega,by rw[e2];omega,by rw[e7];omega,by rw[e5];omega⟩,Ko.o,hO,IU⟩
theorem anS(s:ByteArray)(w:World)(hs:s.size<=281474976710656):Calls prog 93 #[.string s] w fun e w'=>e=.returned (.string s)/\aa af w w':=by
 have F:=ab (agU s w hs);go_in;go_wp2_with fail;refine(F.o).mono ?_;rintro e w1 ⟨rfl,hk⟩;go_wp2_with fail;go_ret;exact⟨rfl,hk⟩
def mE(n N:Nat):List Value:=List.replicate n (.int .i64 (-1))++List.replicate (N-n) (.int .i64 0)
theorem anr(h:n<=N):(mE n N).length=N:=by unfold mE;simp;omega
theorem anq(h:k<n):(mE n N)[k]? =some (.int .i64 (-1)):=by
 unfold mE;rw[A9 (by simpa using h)];simp[h]
theorem ans(h:n+k<=N):splice (mE n N) n (List.replicate k (.int .i64 (-1)))=mE (n+k) N:=by
 unfold splice mE;rw[List.take_append_of_le_length (by simp),By (by simp)];rw[Ck,List.drop_append,Fe (by simp),C7,Ck,List.drop_replicate,<-Bd,List.replicate_append_replicate];congr 2;omega
theorem akT(n:Nat):madeCells #[.int .i64 0] n=(mE 0 n).toArray:=by
 unfold madeCells mE;refine Array.ext (by simp) fun k h1 h2=>?_
 simp[Gj]
theorem afk{P:Program}{o:Oper}{a:Act}{K:Act->World->Prop}{Q:Exit->Act->World->Prop}(d s:Operand)(dT sT:TypeId)
 (ho:o.op=.call {callee:=.builtin .copy,args:=#[d,s],argTypes:=#[dT,sT]})(elem:TypeId)(hu:P.underlying dT=some (.slice elem))(aP:(P.info? elem).map (·.size)=some 1)
 (g n N k c1 c2:Nat)(ad:Addr)(TI Xe:Nat)(hd:a.eval d=.slice (some ⟨g,n,none⟩) TI c1)(hs:a.eval s=.slice (some ad) Xe c2)(t:TypeId)(hg:aq w g (mE n N).toArray t)(hk:Nat.min Xe TI=k)(Ms:n+k<=N)
 (BF:∀j,j<k->w.cell? (ad.add j)=some (.int .i64 (-1)))
 (h:∀w',aq w' g (mE (n+k) N).toArray t->aa (fun i=>i=g) w w'->K (a.put o.dst (goInt k)) w'):o.wp P a w K Q:=by
 have sY:=run_copy_row P w dT sT o.type elem g n TI c1 ad Xe c2 (mE n N).toArray t (List.replicate k (.int .i64 (-1))) hu aP hg (by rw[Ck,hk]) (fun j v hv=>by
  have hj:j<k:=by have:=(Ag.1 hv).1;simpa using this
  rw[Cr,if_pos hj]at hv;rw[<-hv];exact BF j hj) (by simp[anr (show n<=N by omega)];omega) (fun v hv=>by rw[D4 hv];rfl)
 unfold Oper.wp;simp[execOp,ho,resolve,invoke,builtin,hd,hs,sY,Result.andThen];refine h _ ?_ (aa.row g _);have:=setRow_heap w g _ (List.take n (mE n N)++(List.replicate k (Value.int .i64 (-1))++List.drop (n+k) (mE n N))).toArray t _ hg;rw[<-ans Ms];unfold splice aq;rw[Ck];exact this
def wM(W:World):Prop:=True
theorem anB(w:World)(b N:Nat)(hb:w.cell? ⟨b,0,none⟩=some (.int .i64 (-1)))(hN:N<=1000000):Calls prog 92 #[.slice (some ⟨b,0,none⟩) 1 1,.int .i64 (N:Int)] w fun e w'=>∃gb,w.heap.size<=gb/\e=.returned (.slice (some ⟨gb,0,none⟩) N N)/\aq w' gb (List.replicate N (.int .i64 (-1))).toArray 3/\aa af w w':=by
 have UQ:=Bk _ _ hb
 have F:Hid (Calls prog 117 #[.int .u64 1,.int .u64 (N:Int)] w fun e w'=>e=.returned (.tuple #[.int .u64 0,.int .u64 (N:Int)])/\w'=w):=by
  have:=alf 1 N (by omega) (by omega) w;have e1:1*N/18446744073709551616=0:=by omega
  have e2:1*N % 18446744073709551616=N:=by omega
  rw[e1,e2]at this;exact this
 have qC:=fun W=>Go.run_make_row' (P:=prog) 22 3 (.int .i64 0) 8 underlying22 Tryz.VW rfl .i64 .i64 N (by omega) (by omega) W
 have B1:Hid (aq (w.alloc (.cells (madeCells #[.int .i64 0] N) 3)) w.heap.size (mE 0 N).toArray 3):=by
  have:=aq.new w (madeCells #[.int .i64 0] N) 3;rw[akT]at this⊢;exact this
 have K1:Hid (aa af w (w.alloc (.cells (madeCells #[.int .i64 0] N) 3))):=(aa.refl af w).alloc _;have iW:(w.alloc (.cells (madeCells #[.int .i64 0] N) 3)).cell? ⟨b,0,none⟩=some (.int .i64 (-1)):=(K1.o.cell (p:=⟨b,0,none⟩) UQ (fun h=>h)).trans hb;have abB:(prog.info? 3).map (·.size)=some 1:=by kernel_rfl
 obtain⟨k0,YG⟩:∃k0,Hid (Nat.min 1 N=k0):=⟨_,(rfl:_=_)⟩
 have vD:k0<=N/\k0<=1/\(0<N->k0=1):=by have:=YG.o;have e:Nat.min 1 N=min 1 N:=rfl;omega
 go_in
 go_wp2_with fail
 refine(F.o).mono ?_;rintro e w0 ⟨rfl,hw0⟩;rw[hw0];go_wp2_with (refine wpList_plain rfl fun K hK=>afk (.tmp 31) (.tmp 32) 22 22 rfl 3 underlying22 abB w.heap.size 0 N k0 N 1 ⟨b,0,none⟩ N 1 rfl rfl 3 B1.o ?p1 ?p2 ?p3 ?_)
 case p1=>exact YG.o
 case p2=>omega
 case p3=>
  intro j hj;have:j=0:=by omega
  subst this;exact iW
 intro w2 mS aN
 have du:Hid (aq w2 w.heap.size (mE k0 N).toArray 3/\aa af w w2):=by
  exact⟨mS,K1.o.bZ aN (fun i hi e=>by omega)⟩
 clear mS aN iW B1 K1 qC F;go_wp2_with fail;go_loopg [8] (N-k0) (fun kk v wr=>∃n:Nat,v=.int .i64 (n:Int)/\k0<=n/\n<=N/\kk=N-n/\Hid (aq wr w.heap.size (mE n N).toArray 3/\aa af w wr))
 case atStart=>exact⟨k0,rfl,Ab _,vD.1,rfl,du⟩
 case round=>
  obtain⟨n,rfl,pj,jW,eZ,HI⟩:=hrel;clear du;by_cases aw:n<N
  ·have iX:(n:Int)<(N:Int):=(by omega);go_wp2_with fail;refine j9 (gW (S:=wM) 9 (by kernel_rfl) rfl rfl rfl (by kernel_rfl) (by kernel_rfl) ?_);refine ai 0 38 (.int .i64 (n:Int)) (trivial:wM _) ?_;refine ai 1 39 (.slice (some ⟨w.heap.size,0,none⟩) N N) (trivial:wM _) ?_;refine ai 2 40 (.int .i64 (n:Int)) (trivial:wM _) ?_;refine pA 3 41 (.slice (some ⟨w.heap.size,n,none⟩) (N-n) (N-n)) rfl rfl (by kernel_rfl) (by kernel_rfl) (by kernel_rfl) (fun _ _ _ h=>h) (Or.inl ⟨by rfl,fun W eT=>by go_simp;omega⟩) (trivial:wM _) ?_;refine ai 4 42 (.slice (some ⟨w.heap.size,0,none⟩) N N) (trivial:wM _) ?_;refine ai 5 43 (.int .i64 (n:Int)) (trivial:wM _) ?_;refine ai 6 44 (.slice (some ⟨w.heap.size,0,none⟩) n N) (trivial:wM _) ?_;simp only[Act.put,Aa,Ad,Ac];obtain⟨q,HQ⟩:∃q,Hid (Nat.min n (N-n)=q):=⟨_,(rfl:_=_)⟩
   have hq:q<=n/\n+q<=N/\0<q:=by have:=HQ.o;have e:Nat.min n (N-n)=min n (N-n):=rfl;omega
   refine bQ 7 fun K hK=>?_
   have hB:aq wr.drew w.heap.size (mE n N).toArray 3:=HI.o.1
   have BF:∀j,j<q->wr.drew.cell? (Addr.add ⟨w.heap.size,0,none⟩ j)=some (.int .i64 (-1)):=fun j hj=>by
    have e:(⟨w.heap.size,0,none⟩:Addr).add j=⟨w.heap.size,j,none⟩:=by unfold Addr.add;split<;>simp_all
    rw[e,hB.cell j];have:=anq (n:=n) (N:=N) (k:=j) (by omega);simpa using this
   refine afk (.tmp 41) (.tmp 44) 22 22 rfl 3 underlying22 abB w.heap.size n N q (N-n) N ⟨w.heap.size,0,none⟩ (N-n) n rfl rfl 3 hB HQ.o hq.2.1 BF ?_;intro w5 gx cW;have uI:Hid (aq w5 w.heap.size (mE (n+q) N).toArray 3/\aa af w w5):=⟨gx,(HI.o.2.drew).bZ cW (fun i hi e=>by omega)⟩;clear gx cW hB BF HI;refine hK.o _ _ (trivial:wM _) (fun _=>?_);clear hK K;simp only[Ak,Ah,Ai,Act.put,Aa,Ad,Ac];refine bQ 8 fun K hK=>?_
   go_simp;refine hK.o _ _ (trivial:wM _) (fun _=>?_);clear hK K;refine At (by kernel_rfl) ?_ _;unfold eN;go_simp;refine jy ?_;go_wp2_with fail;go_roundg (N-(n+q))
   case measure=>omega
   case rel=>exact⟨n+q,by simp;rw[Cx];omega,by omega,hq.2.1,rfl,uI⟩
  ·have hn:n=N:=by omega
   have ax:Hid (aq wr w.heap.size (List.replicate N (.int .i64 (-1))).toArray 3/\aa af w wr):=by
    have:=HI.o;rw[hn]at this;have e:mE N N=List.replicate N (.int .i64 (-1)):=by unfold mE;simp
    rw[e]at this;exact this
   have iX:¬(n:Int)<(N:Int):=(by omega);clear HI;go_wp2_with fail;go_ret;exact⟨w.heap.size,Ab _,rfl,ax.o.1,ax.o.2⟩
