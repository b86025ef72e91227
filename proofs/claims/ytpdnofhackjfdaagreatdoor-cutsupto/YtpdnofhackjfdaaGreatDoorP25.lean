/- Package whole's newOutlook -/
import Derived.Test.YtpdnofhackjfdaaGreatDoorP24
set_option linter.all false
set_option maxRecDepth 100000
set_option maxHeartbeats 8000000
namespace Go.Proofs.YtpdnofhackjfdaaGreatDoor
open Go.Proofs.Tryz
open Go.RowKit Go.Maps
variable {N k n:Nat} {w:World}
def Zh(b:Nat)(sv:Value)(st G:Int)(x:CX)(W:World):Prop:=(W.cell? ⟨b,0,none⟩=some sv/\W.cell? ⟨b,1,none⟩=some (.int .i64 st)/\W.cell? ⟨b,2,none⟩=some (.int .i64 G))/\W.cell? ⟨b+1,0,none⟩=some (.string x.s)/\W.cell? ⟨b+1,1,none⟩=some (.int .i64 x.aB)/\W.cell? ⟨b+1,2,none⟩=some (.int .i32 x.ah)/\W.cell? ⟨b+1,3,none⟩=some (.int .i32 x.bh)/\W.cell? ⟨b+1,4,none⟩=some (.bool x.op)
theorem WR{base:Nat}{v:Value}{L WB:Nat}(h:SO w base v N L WB)(hN:0<N):∃rh cr,v=.slice (some ⟨rh,0,none⟩) N cr/\base<=rh/\rh<w.heap.size/\∀k,k<N->w.cell? ⟨rh,k,none⟩=some (.slice (some ⟨WB,k*L,none⟩) L L):=by
 obtain⟨g,c,hv,l1,l2,l3,l4,l5⟩:=my h hN;refine⟨g,c,hv,l1,l2,fun k hk=>?_⟩;rw[l4 k hk];simp[hk,se]
def Oq(b ob:Nat)(sv bv:Value)(W:World):Prop:=W.cell? ⟨b,0,none⟩=some sv/\W.cell? ⟨ob,8,none⟩=some bv
def Zj(b ob fh n cf FB L eQ:Nat)(x:CX)(W:World):Prop:=W.cell? ⟨ob,9,none⟩=some (.slice (some ⟨fh,0,none⟩) n cf)/\W.cell? ⟨fh,eQ,none⟩=some (.slice (some ⟨FB,eQ*L,none⟩) L L)/\W.cell? ⟨b+1,0,none⟩=some (.string x.s)
def Zi(ob fh n cf FB L b rh nr cr WB:Nat)(W:World):Prop:=(W.cell? ⟨ob,9,none⟩=some (.slice (some ⟨fh,0,none⟩) n cf)/\W.cell? ⟨ob,11,none⟩=some (.slice (some ⟨rh,0,none⟩) nr cr))/\W.cell? ⟨fh,b,none⟩=some (.slice (some ⟨FB,b*L,none⟩) L L)/\W.cell? ⟨rh,0,none⟩=some (.slice (some ⟨WB,0,none⟩) L L)
theorem ac2{lo hi mb c:Nat}{vs:List Sv}{ms:List MS}{x:CX}{st G:Int}(hM:jb w lo hi mb c vs ms)(hg:eR ms)(hq:iz G ms)(dh:ms.length<=4001)(hs:x.s.size<=10000000)(IM:0<=x.aB/\x.aB<=1000000000000):
 Calls prog 60 #[.agg #[.slice (some ⟨mb,0,none⟩) ms.length c,.int .i64 st,.int .i64 G],.agg #[.string x.s,.int .i64 x.aB,.int .i32 x.ah,.int .i32 x.bh,.bool x.op]] w fun e w'=>∃(g:OG) (wf wr:List Nat),e=.returned (.pointer (some ⟨g.ob,0,none⟩))/\(g.ms=ms/\g.x=x/\g.st=st/\g.G=G/\g.mb=mb/\g.c=c/\g.vs=vs/\w.heap.size<=g.ob/\w.heap.size<=g.WB/\g.lo=lo/\g.hi=hi/\w.heap.size<=g.cK/\w.heap.size<=g.fh/\w.heap.size<=g.rh/\w.heap.size<=g.FB)/\g.Ok/\oO w' g 0 wf wr/\aa af w w':=by
 have HM:=ab hM;have pC:=ab hg;have HQ:=ab hq;clear hM hg hq;go_in;go_wp2_with fail;have B2:Hid (aq ((w.alloc (.cells #[.slice (some ⟨mb,0,none⟩) ms.length c,.int .i64 st,.int .i64 G] 73)).alloc (.cells #[.string x.s,.int .i64 x.aB,.int .i32 x.ah,.int .i32 x.bh,.bool x.op] 105)) w.heap.size #[.slice (some ⟨mb,0,none⟩) ms.length c,.int .i64 st,.int .i64 G] 73):=(aq.new w _ _).alloc _
 have B3:Hid (aq ((w.alloc (.cells #[.slice (some ⟨mb,0,none⟩) ms.length c,.int .i64 st,.int .i64 G] 73)).alloc (.cells #[.string x.s,.int .i64 x.aB,.int .i32 x.ah,.int .i32 x.bh,.bool x.op] 105)) (w.heap.size+1) #[.string x.s,.int .i64 x.aB,.int .i32 x.ah,.int .i32 x.bh,.bool x.op] 105):=by
  have:=aq.new (w.alloc (.cells #[.slice (some ⟨mb,0,none⟩) ms.length c,.int .i64 st,.int .i64 G] 73)) #[.string x.s,.int .i64 x.aB,.int .i32 x.ah,.int .i32 x.bh,.bool x.op] 105;rw[fF]at this;exact this
 have K1:Hid (aa af w ((w.alloc (.cells #[.slice (some ⟨mb,0,none⟩) ms.length c,.int .i64 st,.int .i64 G] 73)).alloc (.cells #[.string x.s,.int .i64 x.aB,.int .i32 x.ah,.int .i32 x.bh,.bool x.op] 105))):=((aa.refl af w).alloc _).alloc _;have cR:((w.alloc (.cells #[.slice (some ⟨mb,0,none⟩) ms.length c,.int .i64 st,.int .i64 G] 73)).alloc (.cells #[.string x.s,.int .i64 x.aB,.int .i32 x.ah,.int .i32 x.bh,.bool x.op] 105)).heap.size=w.heap.size+1+1:=by simp
 generalize((w.alloc (.cells #[.slice (some ⟨mb,0,none⟩) ms.length c,.int .i64 st,.int .i64 G] 73)).alloc (.cells #[.string x.s,.int .i64 x.aB,.int .i32 x.ah,.int .i32 x.bh,.bool x.op] 105))=w1 at*
 have PS:Hid (∀W,aa af w1 W->Zh w.heap.size (.slice (some ⟨mb,0,none⟩) ms.length c) st G x W):=fun W k=>by
  have b2:=B2.out.kept k (fun h=>h);have b3:=B3.out.kept k (fun h=>h);exact⟨⟨b2.cell 0,b2.cell 1,b2.cell 2⟩,b3.cell 0,b3.cell 1,b3.cell 2,b3.cell 3,b3.cell 4⟩
 have aj:=PS.out w1.drew (aa.refl af w1).drew;refine jW (gW (S:=Zh w.heap.size (.slice (some ⟨mb,0,none⟩) ms.length c) st G x) 7 (by kernel_rfl) rfl rfl rfl (by kernel_rfl) (by kernel_rfl) ?_);refine ai 0 9 (.agg #[.slice (some ⟨mb,0,none⟩) ms.length c,.int .i64 st,.int .i64 G]) aj ?_;refine ai 1 10 (.agg #[.string x.s,.int .i64 x.aB,.int .i32 x.ah,.int .i32 x.bh,.bool x.op]) aj ?_;refine ai 2 11 (.pointer (some ⟨w.heap.size+1,0,none⟩)) aj ?_;refine ai 3 12 (.string x.s) aj ?_;simp only[Act.put,Aa,Ad,Ac];refine bN 4 fun K hK=>?_
 have F:=ab (af_ x.s w1.drew (by omega));go_simp;refine(F.out).mono ?_;rintro e w2 ⟨bv,aD,rfl,k2,dL,mJ⟩;dsimp only;have K2:Hid (aa af w1 w2):=(aa.refl af w1).drew.trans k2;refine hK.out _ _ (PS.out _ K2.out) (fun _=>?_);clear hK K F;have aql:=mJ.cE;obtain⟨cK,cb,sN,l1,l2,l3,l4,l5⟩:=my dL (by omega);subst sN;have apr:w.heap.size+1+1<=cK:=by have:w1.drew.heap.size=w1.heap.size:=rfl;omega
 have xQ:=ab mJ;have Ym:Hid (∀k,k<aD.length->w2.cell? ⟨cK,k,none⟩=some (.int .i64 (bd x.s (aD.getD k 0):Int))):=fun k hk=>by rw[l4 k hk,ZX hk]
 clear mJ dL l4 l5 l1 l3 k2 aj;refine bN 5 fun K hK=>?_
 go_simp;refine hK.out _ _ (PS.out _ K2.out) (fun _=>?_);clear hK K;refine bN 6 fun K hK=>?_
 go_simp;have kB:aa af w2 (w2.alloc (.cells #[.slice (some ⟨mb,0,none⟩) ms.length c,.int .i64 st,.int .i64 G,.string x.s,.int .i64 x.aB,.int .i32 x.ah,.int .i32 x.bh,.bool x.op,.slice (some ⟨cK,0,none⟩) aD.length cb,.slice none 0 0,.int .i64 0,.slice none 0 0] 170)):=(aa.refl af w2).alloc _;refine hK.out _ _ (PS.out _ (K2.out.trans kB)) (fun _=>?_);clear hK K;have B5:Hid (aq (w2.alloc (.cells #[.slice (some ⟨mb,0,none⟩) ms.length c,.int .i64 st,.int .i64 G,.string x.s,.int .i64 x.aB,.int .i32 x.ah,.int .i32 x.bh,.bool x.op,.slice (some ⟨cK,0,none⟩) aD.length cb,.slice none 0 0,.int .i64 0,.slice none 0 0] 170)) w2.heap.size (GQ (.slice (some ⟨mb,0,none⟩) ms.length c) st G x (.slice (some ⟨cK,0,none⟩) aD.length cb) (.slice none 0 0) 0 (.slice none 0 0)) 170):=aq.new w2 _ _;have qG:(w2.alloc (.cells #[.slice (some ⟨mb,0,none⟩) ms.length c,.int .i64 st,.int .i64 G,.string x.s,.int .i64 x.aB,.int .i32 x.ah,.int .i32 x.bh,.bool x.op,.slice (some ⟨cK,0,none⟩) aD.length cb,.slice none 0 0,.int .i64 0,.slice none 0 0] 170)).heap.size=w2.heap.size+1:=fF _ _;have RN:Hid (aq (w2.alloc (.cells #[.slice (some ⟨mb,0,none⟩) ms.length c,.int .i64 st,.int .i64 G,.string x.s,.int .i64 x.aB,.int .i32 x.ah,.int .i32 x.bh,.bool x.op,.slice (some ⟨cK,0,none⟩) aD.length cb,.slice none 0 0,.int .i64 0,.slice none 0 0] 170)) w.heap.size #[.slice (some ⟨mb,0,none⟩) ms.length c,.int .i64 st,.int .i64 G] 73):=B2.out.kept (K2.out.trans kB) (fun h=>h);have RP:Hid (aq (w2.alloc (.cells #[.slice (some ⟨mb,0,none⟩) ms.length c,.int .i64 st,.int .i64 G,.string x.s,.int .i64 x.aB,.int .i32 x.ah,.int .i32 x.bh,.bool x.op,.slice (some ⟨cK,0,none⟩) aD.length cb,.slice none 0 0,.int .i64 0,.slice none 0 0] 170)) (w.heap.size+1) #[.string x.s,.int .i64 x.aB,.int .i32 x.ah,.int .i32 x.bh,.bool x.op] 105):=B3.out.kept (K2.out.trans kB) (fun h=>h);have K3:Hid (aa af w (w2.alloc (.cells #[.slice (some ⟨mb,0,none⟩) ms.length c,.int .i64 st,.int .i64 G,.string x.s,.int .i64 x.aB,.int .i32 x.ah,.int .i32 x.bh,.bool x.op,.slice (some ⟨cK,0,none⟩) aD.length cb,.slice none 0 0,.int .i64 0,.slice none 0 0] 170))):=(K1.out.trans K2.out).trans kB;have Yn:Hid (∀k,k<aD.length->(w2.alloc (.cells #[.slice (some ⟨mb,0,none⟩) ms.length c,.int .i64 st,.int .i64 G,.string x.s,.int .i64 x.aB,.int .i32 x.ah,.int .i32 x.bh,.bool x.op,.slice (some ⟨cK,0,none⟩) aD.length cb,.slice none 0 0,.int .i64 0,.slice none 0 0] 170)).cell? ⟨cK,k,none⟩=some (.int .i64 (bd x.s (aD.getD k 0):Int))):=fun k hk=>(kB.cell (p:=⟨cK,k,none⟩) l2 (fun h=>h)).trans (Ym.out k hk)
 refine At (by kernel_rfl) ?_ _;unfold eJ;simp only[Al,Ag,Ai];go_simp;refine jw ?_;have gi:=K2.out.size;generalize w2.alloc (.cells #[.slice (some ⟨mb,0,none⟩) ms.length c,.int .i64 st,.int .i64 G,.string x.s,.int .i64 x.aB,.int .i32 x.ah,.int .i32 x.bh,.bool x.op,.slice (some ⟨cK,0,none⟩) aD.length cb,.slice none 0 0,.int .i64 0,.slice none 0 0] 170)=w3 at*;clear kB PS B2 B3 K1 K2 Ym;obtain⟨ob,ki⟩:∃ob,ob=w2.heap.size:=⟨_,rfl⟩
 rw[<-ki]at B5 qG l2 gi⊢;have ap8:ob<w3.heap.size/\w3.heap.size<=ob+1:=by omega
 have abY:w.heap.size+1+1<=w1.heap.size:=by omega
 clear ki qG cR;obtain⟨nr,Of⟩:∃nr,Hid (nr=min x.s.size 4100+1):=⟨_,(rfl:_=_)⟩
 have hnr:nr<=4101:=by have:=Of.out;omega
 have Mf:0<nr:=by have:=Of.out;omega
 have U_:min (x.s.size:Int) 4100+1=(nr:Int):=by have:=Of.out;omega
 obtain⟨L,HL⟩:∃L,Hid (L=ms.length/64+1):=⟨_,(rfl:_=_)⟩
 have cs:w3.cell? ⟨w.heap.size+1,0,none⟩=some (.string x.s):=RP.out.cell 0;have cm:w3.cell? ⟨w.heap.size,0,none⟩=some (.slice (some ⟨mb,0,none⟩) ms.length c):=RN.out.cell 0;have F:=ab (Wd nr ms.length L HL.out (by omega) dh w3);go_wp2_with fail;refine(F.out).mono ?_;rintro e w4 ⟨rv,rfl,dL,hbW,k4⟩;obtain⟨rh,cr,hrv,r1,r2,hrc⟩:=WR dL Mf;subst hrv;have NF:=B5.out.kept k4 (fun h=>h);have Z_:w4.cell? ⟨ob,11,none⟩=some (.slice none 0 0):=NF.cell 11;have f11:=NF.frozen 11;have kS:aa (fun i=>i=ob) w4 (w4.setCell ⟨ob,11,none⟩ (.slice (some ⟨rh,0,none⟩) nr cr)):=(aa.refl (fun i=>i=ob) w4).setCell (p:=⟨ob,11,none⟩) (Or.inl rfl) _;have pM:=k4.size;have aqn:w.heap.size+1+1<=ob:=by omega
 have RU:Hid (aq (w4.setCell ⟨ob,11,none⟩ (.slice (some ⟨rh,0,none⟩) nr cr)) ob (GQ (.slice (some ⟨mb,0,none⟩) ms.length c) st G x (.slice (some ⟨cK,0,none⟩) aD.length cb) (.slice none 0 0) 0 (.slice (some ⟨rh,0,none⟩) nr cr)) 170):=by
  have:=NF.setCell 11 (.slice (some ⟨rh,0,none⟩) nr cr);show aq _ _ _ _
  simpa[GQ]using this
 have K5:Hid (aa af w (w4.setCell ⟨ob,11,none⟩ (.slice (some ⟨rh,0,none⟩) nr cr))):=(K3.out.trans k4).bV kS (fun i hi e=>by omega);have RO:=ab ((RN.out.kept k4 (fun h=>h)).kept kS (by omega));have XI:=ab ((RP.out.kept k4 (fun h=>h)).kept kS (by omega));have Yo:Hid (∀k,k<aD.length->(w4.setCell ⟨ob,11,none⟩ (.slice (some ⟨rh,0,none⟩) nr cr)).cell? ⟨cK,k,none⟩=some (.int .i64 (bd x.s (aD.getD k 0):Int))):=fun k hk=>(kS.cell (p:=⟨cK,k,none⟩) (by show cK<_;omega) (by show¬cK=ob;omega)).trans ((k4.cell (p:=⟨cK,k,none⟩) (by show cK<_;omega) (fun h=>h)).trans (Yn.out k hk))
 have YX:Hid (∀k,k<nr->(w4.setCell ⟨ob,11,none⟩ (.slice (some ⟨rh,0,none⟩) nr cr)).cell? ⟨rh,k,none⟩=some (.slice (some ⟨w3.heap.size,k*L,none⟩) L L)):=fun k hk=>(kS.cell (p:=⟨rh,k,none⟩) r2 (by show¬rh=ob;omega)).trans (hrc k hk)
 have Yi:=ab (hbW.kept kS (by omega));have Qm:(w4.setCell ⟨ob,11,none⟩ (.slice (some ⟨rh,0,none⟩) nr cr)).heap.size=w4.heap.size:=by simp[World.setCell]
 clear dL hrc hbW k4 NF kS F RN RP K3 Yn B5 cs cm;go_wp2_with fail;generalize w4.setCell ⟨ob,11,none⟩ (.slice (some ⟨rh,0,none⟩) nr cr)=w5 at*;rw[<-Qm]at r2 pM;clear Qm;have zz:Hid (∀W,aa af w5 W->Oq w.heap.size ob (.slice (some ⟨mb,0,none⟩) ms.length c) (.slice (some ⟨cK,0,none⟩) aD.length cb) W):=fun W k=>⟨(RO.out.kept k (fun h=>h)).cell 0,(RU.out.kept k (fun h=>h)).cell 8⟩
 have aj:=zz.out w5.drew (aa.refl af w5).drew;have apC:=xQ.out.bT;refine jW (gW (S:=Oq w.heap.size ob (.slice (some ⟨mb,0,none⟩) ms.length c) (.slice (some ⟨cK,0,none⟩) aD.length cb)) 12 (by kernel_rfl) rfl rfl rfl (by kernel_rfl) (by kernel_rfl) ?_);refine ai 0 28 (.pointer (some ⟨ob,0,none⟩)) aj ?_;refine ai 1 29 (.pointer (some ⟨ob,0,none⟩)) aj ?_;refine ai 2 30 (.pointer (some ⟨ob,0,none⟩)) aj ?_;refine ai 3 31 (.pointer (some ⟨ob,8,none⟩)) aj ?_;refine ai 4 32 (.slice (some ⟨cK,0,none⟩) aD.length cb) aj ?_;refine ai 5 33 (.int .i64 (aD.length:Int)) aj ?_;refine ai 6 34 (.pointer (some ⟨w.heap.size,0,none⟩)) aj ?_;refine ai 7 35 (.slice (some ⟨mb,0,none⟩) ms.length c) aj ?_;refine ai 8 36 (.int .i64 (ms.length:Int)) aj ?_;simp only[Act.put,Aa,Ad,Ac];refine bN 9 fun K hK=>?_
 have F:=ab (Wd aD.length ms.length L HL.out (by omega) dh w5.drew);go_simp;refine(F.out).mono ?_;rintro e w6 ⟨fv,rfl,dL,Uz,k6⟩;dsimp only;have xm:aa af w5 w6:=(aa.refl af w5).drew.trans k6;have aik:w5.drew.heap.size=w5.heap.size:=rfl;rw[aik]at dL Uz;obtain⟨fh,cf,UO,q1,q2,IS⟩:=WR dL (by omega);subst UO;have tE:=ab xm;refine hK.out _ _ (zz.out _ tE.out) (fun _=>?_);clear hK K F;refine bN 10 fun K hK=>?_
 go_simp;refine hK.out _ _ (zz.out _ tE.out) (fun _=>?_);clear hK K;refine bN 11 fun K hK=>?_
 go_simp;refine hK.out _ _ (zz.out _ tE.out) (fun _=>?_);clear hK K;refine At (by kernel_rfl) ?_ _;unfold eJ;simp only[Al,Ag,Ai];have NG:=RU.out.kept xm (fun h=>h);have c9:w6.cell? ⟨ob,9,none⟩=some (.slice none 0 0):=NG.cell 9;have f9:=NG.frozen 9;have kS:aa (fun i=>i=ob) w6 (w6.setCell ⟨ob,9,none⟩ (.slice (some ⟨fh,0,none⟩) aD.length cf)):=(aa.refl (fun i=>i=ob) w6).setCell (p:=⟨ob,9,none⟩) (Or.inl rfl) _;have Vm:=xm.size
 have RV:Hid (aq (w6.setCell ⟨ob,9,none⟩ (.slice (some ⟨fh,0,none⟩) aD.length cf)) ob (GQ (.slice (some ⟨mb,0,none⟩) ms.length c) st G x (.slice (some ⟨cK,0,none⟩) aD.length cb) (.slice (some ⟨fh,0,none⟩) aD.length cf) 0 (.slice (some ⟨rh,0,none⟩) nr cr)) 170):=by
  have:=NG.setCell 9 (.slice (some ⟨fh,0,none⟩) aD.length cf);show aq _ _ _ _
  simpa[GQ]using this
 have K7:Hid (aa af w (w6.setCell ⟨ob,9,none⟩ (.slice (some ⟨fh,0,none⟩) aD.length cf))):=(K5.out.trans xm).bV kS (fun i hi e=>by omega);have XH:=ab ((RO.out.kept xm (fun h=>h)).kept kS (by omega));have XJ:=ab ((XI.out.kept xm (fun h=>h)).kept kS (by omega));have Yp:Hid (∀k,k<aD.length->(w6.setCell ⟨ob,9,none⟩ (.slice (some ⟨fh,0,none⟩) aD.length cf)).cell? ⟨cK,k,none⟩=some (.int .i64 (bd x.s (aD.getD k 0):Int))):=fun k hk=>(kS.cell (p:=⟨cK,k,none⟩) (by show cK<_;omega) (by show¬cK=ob;omega)).trans ((xm.cell (p:=⟨cK,k,none⟩) (by show cK<_;omega) (fun h=>h)).trans (Yo.out k hk))
 have YY:Hid (∀k,k<nr->(w6.setCell ⟨ob,9,none⟩ (.slice (some ⟨fh,0,none⟩) aD.length cf)).cell? ⟨rh,k,none⟩=some (.slice (some ⟨w3.heap.size,k*L,none⟩) L L)):=fun k hk=>(kS.cell (p:=⟨rh,k,none⟩) (by show rh<_;omega) (by show¬rh=ob;omega)).trans ((xm.cell (p:=⟨rh,k,none⟩) r2 (fun h=>h)).trans (YX.out k hk))
 have Yt:Hid (∀k,k<aD.length->(w6.setCell ⟨ob,9,none⟩ (.slice (some ⟨fh,0,none⟩) aD.length cf)).cell? ⟨fh,k,none⟩=some (.slice (some ⟨w5.heap.size,k*L,none⟩) L L)):=fun k hk=>(kS.cell (p:=⟨fh,k,none⟩) q2 (by show¬fh=ob;omega)).trans (IS k hk)
 have Yj:=ab ((Yi.out.kept xm (fun h=>h)).kept kS (by omega));have Yc:=ab (Uz.kept kS (by omega));have I6:(w6.setCell ⟨ob,9,none⟩ (.slice (some ⟨fh,0,none⟩) aD.length cf)).heap.size=w6.heap.size:=by simp[World.setCell]
 clear dL IS Uz k6 xm NG kS tE zz aj RO XI RU K5 Yo YX Yi;go_simp;refine jw ?_;generalize w6.setCell ⟨ob,9,none⟩ (.slice (some ⟨fh,0,none⟩) aD.length cf)=w7 at*;rw[<-I6]at q2 Vm;clear c9 f9 I6;go_wp2_with fail;have SM:Hid (∀W,aa af w7 W->Oq w.heap.size ob (.slice (some ⟨mb,0,none⟩) ms.length c) (.slice (some ⟨cK,0,none⟩) aD.length cb) W):=fun W k=>⟨(XH.out.kept k (fun h=>h)).cell 0,(RV.out.kept k (fun h=>h)).cell 8⟩
 have aj:=SM.out w7.drew (aa.refl af w7).drew;obtain⟨eQ,CO⟩:∃eQ,Hid (aD.length=eQ+1):=⟨aD.length-1,by show _=_;omega⟩
 refine jW (Cf (by kernel_rfl) (Cd (S:=Oq w.heap.size ob (.slice (some ⟨mb,0,none⟩) ms.length c) (.slice (some ⟨cK,0,none⟩) aD.length cb)) _ _ _ _ ?_));refine ai 0 40 (.pointer (some ⟨ob,0,none⟩)) aj ?_;refine ai 1 41 (.pointer (some ⟨ob,0,none⟩)) aj ?_;refine ai 2 42 (.pointer (some ⟨ob,8,none⟩)) aj ?_;refine ai 3 43 (.slice (some ⟨cK,0,none⟩) aD.length cb) aj ?_;refine ai 4 44 (.int .i64 (aD.length:Int)) aj ?_;refine pj 5 45 (.int .i64 (eQ:Int)) rfl rfl (by kernel_rfl) (by kernel_rfl) (by kernel_rfl) (fun _ _ _ h=>h) (Or.inl ⟨by rfl,fun W eP=>by obtain⟨s0,s1⟩:=eP;go_simp;rw[Cv];have:=CO.out;omega⟩) aj ?_;refine ai 6 46 (.pointer (some ⟨w.heap.size,0,none⟩)) aj ?_;refine ai 7 47 (.slice (some ⟨mb,0,none⟩) ms.length c) aj ?_;refine ai 8 48 (.int .i64 (ms.length:Int)) aj ?_;simp only[Act.put,Aa,Ad,Ac];refine bN 9 fun K hK=>?_
 have F:Hid (Calls prog 86 #[.int .i64 1,.int .i64 (ms.length:Int)] w7.drew _):=Wd 1 ms.length L HL.out (by omega) dh w7.drew;go_simp;refine(F.out).mono ?_;rintro e w8 ⟨nv,rfl,dL,Py,k8⟩;dsimp only;have vK:aa af w7 w8:=(aa.refl af w7).drew.trans k8;have aio:w7.drew.heap.size=w7.heap.size:=rfl;rw[aio]at dL Py;obtain⟨nh,cn,Mg,n1,n2,Mb⟩:=WR dL (by omega);subst Mg;have cn0:w8.cell? ⟨nh,0,none⟩=some (.slice (some ⟨w7.heap.size,0,none⟩) L L):=by have:=Mb 0 (by omega);rw[Eu]at this;exact this
 rw[Nat.one_mul]at Py;have Y7:=ab vK;have wT:=SM.out _ Y7.out;refine hK.out _ _ wT (fun _=>?_);clear hK K F;refine ai 12 6 (.int .i64 (eQ:Int)) wT ?_;simp only[Act.put,Aa,Ad,Ac];refine bN 10 fun K hK=>?_
 go_simp;refine hK.out _ _ wT (fun _=>?_);clear hK K;refine bN 11 fun K hK=>?_
 go_simp;refine hK.out _ _ wT (fun _=>?_);clear hK K;refine bN 13 fun K hK=>?_
 go_simp;refine hK.out _ _ wT (fun _=>?_);clear hK K;refine At (by kernel_rfl) ?_ _;refine jw ?_;have hs8:=vK.size;have hTl:=HM.out.jK.lt;have hMl:=HM.out.ic.lt;have hHl:=HM.out.le;have K8:=ab (K7.out.trans vK);have apG:=K8.out.size;obtain⟨g,gQ⟩:∃g:OG,g=⟨ob,lo,hi,mb,c,vs,ms,x,st,G,cK,cb,aD,fh,cf,w5.heap.size,rh,cr,w3.heap.size,nr,L⟩:=⟨_,rfl⟩
 have J9:Hid g.Ok:=by
  rw[gQ];exact{ft:=pC.out,q:=HQ.out,bT:=dh,size:=hs,aB:=IM,Ia:=HL.out,bg:=xQ.out,ac7:=Of.out,OI:=⟨by show w5.heap.size≠ob;omega,by show w5.heap.size≠mb;omega,by show¬(lo<=w5.heap.size/\w5.heap.size<hi);omega,by show w5.heap.size≠_;omega,by show w5.heap.size≠_;omega⟩,KO:=⟨by show w3.heap.size≠ob;omega,by show w3.heap.size≠mb;omega,by show¬(lo<=w3.heap.size/\w3.heap.size<hi);omega,by show w3.heap.size≠_;omega,by show w3.heap.size≠_;omega⟩,Io:=⟨by show ob≠mb;omega,by show¬(lo<=ob/\ob<hi);omega,by show ob≠_;omega,by show ob≠_;omega⟩,ne:=⟨by show w3.heap.size≠w5.heap.size;omega,⟨by show w3.heap.size≠cK;omega,by show w3.heap.size≠fh;omega,by show w3.heap.size≠rh;omega⟩,⟨by show w5.heap.size≠cK;omega,by show w5.heap.size≠fh;omega,by show w5.heap.size≠rh;omega⟩,⟨by show ob≠cK;omega,by show ob≠fh;omega,by show ob≠rh;omega⟩⟩}
 have wG:Hid (ij w8 g 0 (List.replicate (aD.length*L) 0) (List.replicate (nr*L) 0)):=by
  rw[gQ];have M8:=HM.out.kept K8.out;exact{rk:=⟨RV.out.kept vK (fun h=>h),M8.ic,M8.vZ,M8.le,M8.jK⟩,bg:=fun k hk=>(vK.cell (p:=⟨cK,k,none⟩) (by show cK<_;omega) (fun h=>h)).trans (Yp.out k hk),fh:=fun k hk=>(vK.cell (p:=⟨fh,k,none⟩) q2 (fun h=>h)).trans (Yt.out k hk),rh:=fun k hk=>(vK.cell (p:=⟨rh,k,none⟩) (by show rh<_;omega) (fun h=>h)).trans (YY.out k hk),lt:=⟨by show cK<_;omega,by show fh<_;omega,by show rh<_;omega⟩,bf:=Yc.out.kept vK (fun h=>h),bw:=Yj.out.kept vK (fun h=>h),fl:=⟨by simp,fW.JN _⟩,wl:=⟨by simp,fW.JN _⟩}
 have ND:=ab (XJ.out.kept vK (fun h=>h));have wo:=ab Py;have Tp:w8.cell? ⟨w.heap.size+1,4,none⟩=some (.bool x.op):=ND.out.cell 4;have qx:g.ob=ob/\g.fh=fh/\g.aD=aD/\g.cf=cf/\g.FB=w5.heap.size/\g.L=L/\g.rh=rh/\g.nr=nr/\g.cr=cr/\g.WB=w3.heap.size/\g.ms=ms/\g.x=x/\g.st=st/\g.G=G/\g.mb=mb/\g.c=c/\g.vs=vs/\g.lo=lo/\g.hi=hi/\g.cK=cK:=by rw[gQ];exact⟨rfl,rfl,rfl,rfl,rfl,rfl,rfl,rfl,rfl,rfl,rfl,rfl,rfl,rfl,rfl,rfl,rfl,rfl,rfl,rfl⟩
 have mD:=ab qx;clear dL Mb k8 vK Y7 wT aj SM gQ qx Py XH XJ RV K7 Yp YY Yt Yj Yc cn0
 have Ox:Hid (∀w9 aL,aa (fun i=>i=w5.heap.size) w8 w9->aL.length=L->fW aL->aq w9 w5.heap.size (de (splice (List.replicate (aD.length*L) 0) (eQ*L) aL)).toArray 207->(∀u:Nat,u<ms.length->gh aL 0 u=dM ms x u x.n)->∃(ak:Nat) (wf wd:List Nat),ij w9 g ak wf wd/\(∀j,eQ<=j->j<aD.length->zC g wf j (aD.getD j 0))/\(eQ=0->ak=0/\uV g wd 0 (aD.getD 0 0))/\aa af w w9):=fun w9 aL BC fa bj EH vz=>by
  obtain⟨e1,e2,e3,e4,e5,e6,e7,e8,e9,ve,sF,yh,DR,DS,DT,Lc,Ld,Le,Lf,Lg⟩:=mD.out;have IY:=CO.out;have sK:=HL.out
  have tV:eQ*L+L<=(List.replicate (aD.length*L) 0).length:=by
   rw[Cj];have:=Bq L (show eQ+1<=aD.length by omega);rw[Cq]at this;omega
  have fM:(splice (List.replicate (aD.length*L) 0) (eQ*L) aL).length=aD.length*L:=by rw[Dd _ _ _ (by rw[fa];exact tV),Cj]
  refine⟨0,splice (List.replicate (aD.length*L) 0) (eQ*L) aL,List.replicate (nr*L) 0,wG.out.aee J9.out (by rw[e5];exact BC) (by rw[e5];exact EH) ⟨by rw[e3,e6];exact fM,(fW.JN _).splice bj _⟩,fun j rG lL=>?_,fun h0=>by omega,K8.out.bV BC (fun i hi he=>by omega)⟩;have hj:j=eQ:=by omega
  subst hj;have t_:=xQ.out.eQ;rw[show aD.length-1=j by omega]at t_;rw[t_];intro u hu;rw[sF]at hu⊢;rw[e6,yh,OO (by rw[fa];exact tV) (by rw[fa];omega)];exact vz u hu
 have apR:1<=eQ:=by have:=CO.out;omega
 cases dY:x.op
 all_goals rw[dY]at Tp
 case' false=>
  go_wp2_with fail
  have Zn:Hid (∀W,aa af w8 W->Zj w.heap.size ob fh aD.length cf w5.heap.size L eQ x W):=fun W k=>by
   have O:=wG.out.kept k;obtain⟨e1,e2,e3,e4,e5,e6,_⟩:=mD.out;have a1:=O.rk.out.cell 9;have a2:=O.fh eQ (by rw[e3];have:=CO.out;omega);rw[e1]at a1;rw[e2,e5,e6]at a2;refine⟨?_,a2,(ND.out.kept k (fun h=>h)).cell 0⟩;rw[a1];show some g.fv=_
   unfold OG.fv;rw[e2,e3,e4]
  have aj:=Zn.out w8.drew (aa.refl af w8).drew;have t_:eQ<aD.length:=by have:=CO.out;omega
  refine jW (gW (S:=Zj w.heap.size ob fh aD.length cf w5.heap.size L eQ x) 12 (by kernel_rfl) rfl rfl rfl (by kernel_rfl) (by kernel_rfl) ?_);refine ai 0 62 (.pointer (some ⟨ob,0,none⟩)) aj ?_;refine ai 1 63 (.pointer (some ⟨ob,0,none⟩)) aj ?_;refine ai 2 64 (.pointer (some ⟨ob,0,none⟩)) aj ?_;refine ai 3 65 (.pointer (some ⟨ob,9,none⟩)) aj ?_;refine ai 4 66 (.slice (some ⟨fh,0,none⟩) aD.length cf) aj ?_;refine ai 5 67 (.int .i64 (eQ:Int)) aj ?_;refine ai 6 68 (.pointer (some ⟨fh,eQ,none⟩)) aj ?_;refine ai 7 69 (.slice (some ⟨w5.heap.size,eQ*L,none⟩) L L) aj ?_;refine ai 8 70 (.slice (some ⟨w7.heap.size,0,none⟩) L L) aj ?_;refine ai 9 71 (.pointer (some ⟨w.heap.size+1,0,none⟩)) aj ?_;refine ai 10 72 (.string x.s) aj ?_;refine ai 11 73 (.int .i64 (x.s.size:Int)) aj ?_;simp only[Act.put,Aa,Ad,Ac];refine At (by kernel_rfl) ?_ _;unfold eJ;simp only[Al,Ag,Ai];go_simp;have sK:=HL.out
  have Gj:Calls prog 88 #[.pointer (some ⟨ob,0,none⟩),.slice (some ⟨w5.heap.size,eQ*L,none⟩) L L,.slice (some ⟨w7.heap.size,0,none⟩) L L,.int .i64 (x.s.size:Int)] w8.drew fun e w'=>e=.returned (.tuple #[])/\aa (fun i=>i=w5.heap.size) w8.drew w'/\∃aL,aL.length=L/\fW aL/\aq w' w5.heap.size (de (splice (List.replicate (aD.length*L) 0) (eQ*L) aL)).toArray 207/\(True->∀u:Nat,u<ms.length->gh aL 0 u=dM ms x u x.n):=by
   obtain⟨e1,e2,e3,e4,e5,e6,e7,e8,e9,ve,sF,yh,DR,DS,DT,Lc,Ld,Le,Lf,Lg⟩:=mD.out;have hR:=wG.out.rk.kept ((aa.refl af w8).drew) (fun h=>h) (fun h=>h) (fun _ _ _ h=>h) (fun h=>h) (fun h=>h);have hB:=wG.out.bf;have hA:=J9.out.OI;have oY:=wG.out.fl.1;rw[e5]at hB hA;rw[sF,yh]at hR;rw[e1]at hR hA
   have tV:eQ*L+L<=(List.replicate (aD.length*L) 0).length:=by
    rw[Cj];have:=Bq L (show eQ+1<=aD.length by omega);rw[Cq]at this;omega
   have f_:bd x.s (aF x.s).length=x.s.size:=nf (Ab _)
   have:=ad4 (c1:=L) (c2:=L) (i:=(aF x.s).length) (H:=True) (B2:=w7.heap.size) (o2:=0) hR pC.out HQ.out dh (by omega) (show(aF x.s).length<=x.n from Ab _) (by rw[dY,Eo]) sK (show aq w8.drew w5.heap.size (de (List.replicate (aD.length*L) 0)).toArray 207 from hB) tV hA (by
    intro W aL hk fa bj vA;refine⟨List.replicate L 0,fW.JN L,fun k tY=>?_,fun _ u hu=>by rw[ZZ,show decide ((aF x.s).length<x.n)=false from Bd (Nat.lt_irrefl _),Eo]⟩;have hb:=wo.out.cell k;rw[zg (by rw[Cj];exact tY)]at hb;rw[Ba];exact(hk.cell (p:=⟨w7.heap.size,k,none⟩) (by show w7.heap.size<w8.drew.heap.size;have:=wo.out.lt;exact this) (by show¬w7.heap.size=w5.heap.size;omega)).trans hb)
   rw[f_]at this;exact this
  refine Gj.mono ?_;rintro e w9 ⟨rfl,UY,aL,fa,bj,EH,vz⟩;dsimp only;refine jw ?_;have BC:aa (fun i=>i=w5.heap.size) w8 w9:=(aa.refl (fun i=>i=w5.heap.size) w8).drew.trans UY;have dr:=ab (Ox.out w9 aL BC fa bj EH (vz trivial));clear sK Gj UY EH vz bj fa BC Zn aj wG wo Tp ND Ox;go_wp2_with fail
 case' true=>
  have t_:eQ<aD.length:=by have:=CO.out;omega
  have r9:w8.cell? ⟨ob,9,none⟩=some (.slice (some ⟨fh,0,none⟩) aD.length cf):=by
   obtain⟨e1,e2,e3,e4,e5,e6,_⟩:=mD.out;have a1:=wG.out.rk.out.cell 9;rw[e1]at a1;rw[a1];show some g.fv=_
   unfold OG.fv;rw[e2,e3,e4]
  have r10:w8.cell? ⟨fh,eQ,none⟩=some (.slice (some ⟨w5.heap.size,eQ*L,none⟩) L L):=by
   obtain⟨e1,e2,e3,e4,e5,e6,_⟩:=mD.out;have a2:=wG.out.fh eQ (by rw[e3];have:=CO.out;omega);rw[e2,e5,e6]at a2;exact a2
  have hi9:¬((aD.length:Int)<=(eQ:Int)):=by omega
  have F:=ab fun(W:World) (h:aq W w5.heap.size (de (List.replicate (aD.length*L) 0)).toArray 207)=>amL (o:=eQ*L) (L:=L) (c:=L) h (fW.JN _) (by
   rw[Cj];have:=Bq L (show eQ+1<=aD.length by omega);rw[Cq]at this;omega) (by have:=HL.out;omega)
  have CG:Hid (aq w8 w5.heap.size (de (List.replicate (aD.length*L) 0)).toArray 207):=by
   obtain⟨e1,e2,e3,e4,e5,_⟩:=mD.out;have:=wG.out.bf;rw[e5]at this;exact this
  go_wp2_with fail
  refine(F.out _ CG.out).mono ?_;rintro e w9 ⟨rfl,BC,aL,fa,bj,EH,vz⟩;have dr:=ab (Ox.out w9 aL BC fa bj EH (fun u hu=>by rw[vz u (by have:=HL.out;omega),alr dY (Ab _)]));clear vz bj fa BC EH wG wo Tp ND Ox F CG r9 r10 hi9;go_wp2_with fail
 all_goals
  go_loopg [8] eQ (fun kk v wq=>∃k:Nat,v=.int .i64 ((k:Int)-1)/\k<=eQ/\kk=k/\Hid (∃(ak:Nat) (wf wd:List Nat),ij wq g ak wf wd/\(∀j,k<=j->j<aD.length->zC g wf j (aD.getD j 0))/\(k=0->ak=0/\uV g wd 0 (aD.getD 0 0))/\aa af w wq))
  case atStart=>exact⟨eQ,rfl,Ab _,rfl,dr⟩
  case round=>
   obtain⟨k,rfl,hk,eT,HI⟩:=hrel;clear dr;by_cases vE:0<k
   ·obtain⟨m,rfl⟩:∃m,k=m+1:=⟨k-1,by omega⟩
    have em:((m+1:Nat):Int)-1=(m:Int):=(by omega);rw[em];have im:(0:Int)<=(m:Int):=(by omega);have yB:m<aD.length:=(by omega);obtain⟨ak,wf,wd,hO,hF,hZ,IF⟩:=HI.out
    have F:Calls prog 89 #[.pointer (some ⟨ob,0,none⟩),.int .i64 (m:Int)] wr fun e w'=>e=.returned (.tuple #[])/\∃pY,ij w' g m wf pY/\uV g pY m (g.aD.getD m 0)/\aa (fun i=>i=g.ob\/i=g.WB) wr w':=by
     obtain⟨e1,e2,e3,e4,e5,e6,e7,e8,e9,ve,sF,yh,DR,DS,DT,Lc,Ld,Le,Lf,Lg⟩:=mD.out;have:=acG J9.out hO (b:=m) (by rw[e3];omega) (by rw[e3];exact hF (m+1) (Ab _) (by omega));rw[e1]at this⊢;exact this
    have J6:=ab hF;have YJ:=ab IF;have F:=ab F;clear hO hF hZ IF HI em;go_wp2_with fail;refine(F.out).mono ?_;rintro e Hj ⟨rfl,pY,Pr,LC,k10⟩;have qe:=ab Pr;have qf:=ab LC
    have Ow:Hid (∀W,aa af Hj W->Zi ob fh aD.length cf w5.heap.size L m rh nr cr w3.heap.size W):=fun W kW=>by
     have O:=qe.out.kept kW;obtain⟨e1,e2,e3,e4,e5,e6,e7,e8,e9,ve,_⟩:=mD.out;have a1:=O.rk.out.cell 9;have a2:=O.rk.out.cell 11;have a3:=O.fh m (by rw[e3];omega);have a4:=O.rh 0 (by rw[e8];omega);rw[e1]at a1 a2;rw[e2,e5,e6]at a3;rw[e7,ve,e6]at a4;refine⟨⟨?_,?_⟩,a3,?_⟩
     ·rw[a1];show some g.fv=_;unfold OG.fv;rw[e2,e3,e4]
     ·rw[a2];show some g.rv=_;unfold OG.rv;rw[e7,e8,e9]
     ·rw[a4];unfold se;rw[Eu]
    have aj:=Ow.out Hj.drew (aa.refl af Hj).drew;have YF:=ab k10;clear Pr LC k10 F;go_wp2_with fail;refine jW (gW (S:=Zi ob fh aD.length cf w5.heap.size L m rh nr cr w3.heap.size) 13 (by kernel_rfl) rfl rfl rfl (by kernel_rfl) (by kernel_rfl) ?_);refine ai 0 84 (.pointer (some ⟨ob,0,none⟩)) aj ?_;refine ai 1 85 (.pointer (some ⟨ob,0,none⟩)) aj ?_;refine ai 2 86 (.pointer (some ⟨ob,9,none⟩)) aj ?_;refine ai 3 87 (.slice (some ⟨fh,0,none⟩) aD.length cf) aj ?_;refine ai 4 88 (.int .i64 (m:Int)) aj ?_;refine ai 5 89 (.pointer (some ⟨fh,m,none⟩)) aj ?_;refine ai 6 90 (.slice (some ⟨w5.heap.size,m*L,none⟩) L L) aj ?_;refine ai 7 91 (.pointer (some ⟨ob,0,none⟩)) aj ?_;refine ai 8 92 (.pointer (some ⟨ob,0,none⟩)) aj ?_;refine ai 9 93 (.pointer (some ⟨ob,11,none⟩)) aj ?_;refine ai 10 94 (.slice (some ⟨rh,0,none⟩) nr cr) aj ?_;refine ai 11 95 (.pointer (some ⟨rh,0,none⟩)) aj ?_;refine ai 12 96 (.slice (some ⟨w3.heap.size,0,none⟩) L L) aj ?_;simp only[Act.put,Aa,Ad,Ac];refine At (by kernel_rfl) ?_ _;unfold eJ;refine afq (.tmp 90) (.tmp 96) 173 173 rfl 207 underlying173 (by kernel_rfl) w5.heap.size (m*L) L L L w3.heap.size 0 rfl rfl wf 207 ?l0 (kV pY 0 L) ?l1 ?l2 ?l3 ?_
    case l0=>
     have:=qe.out.bf;rw[mD.out.2.2.2.2.1]at this;exact this
    case l1=>
     refine JC ?_;have:=qe.out.wl.1;rw[mD.out.2.2.2.2.2.2.2.1,mD.out.2.2.2.2.2.1]at this;have h2:=Bq L Mf;omega
    case l2=>
     intro q hq;have h1:=qe.out.wl.1;rw[mD.out.2.2.2.2.2.2.2.1,mD.out.2.2.2.2.2.1]at h1;have h2:=Bq L Mf;have h3:=qe.out.bw.cell q;rw[mD.out.2.2.2.2.2.2.2.2.2.1,zg (by omega)]at h3;rw[Rk hq,Ba];exact h3
    case l3=>
     have h1:=qe.out.fl.1;rw[mD.out.2.2.1,mD.out.2.2.2.2.2.1]at h1;have:=Bq L (show m+1<=aD.length by omega);rw[Cq]at this;omega
    intro XA Ux abI;have VK:aa (fun i=>i=w5.heap.size) Hj XA:=(aa.refl (fun i=>i=w5.heap.size) Hj).drew.trans abI
    have ax:Hid (∃(ak:Nat) (wf wd:List Nat),ij XA g ak wf wd/\(∀j,m<=j->j<aD.length->zC g wf j (aD.getD j 0))/\(m=0->ak=0/\uV g wd 0 (aD.getD 0 0))/\aa af w XA):=by
     obtain⟨e1,e2,e3,e4,e5,e6,e7,e8,e9,ve,sF,yh,DR,DS,DT,Lc,Ld,Le,Lf,Lg⟩:=mD.out;have h1:=qe.out.fl.1;rw[e3,e6]at h1;have h2:=qe.out.wl.1;rw[e8,e6]at h2;have h3:=Bq L (show m+1<=aD.length by omega);rw[Cq]at h3;have h4:=Bq L Mf;have Vo:(kV pY 0 L).length=L:=JC (by omega);have fM:(splice wf (m*L) (kV pY 0 L)).length=aD.length*L:=by rw[Dd _ _ _ (by omega)];exact h1
     have hLe:=HL.out;refine⟨m,splice wf (m*L) (kV pY 0 L),pY,qe.out.aee J9.out (by rw[e5];exact VK) (by rw[e5];exact Ux) ⟨by rw[e3,e6];exact fM,qe.out.fl.2.splice (qe.out.wl.2.kV _ _) _⟩,fun j rG lL u hu=>?_,fun h0=>⟨h0,by have:=qf.out;rw[e3]at this;rw[h0]at this;exact this⟩,(YJ.out.bV YF.out (fun i hi he=>by rw[e1,ve]at he;omega)).bV VK (fun i hi he=>by omega)⟩;rw[sF]at hu;by_cases ej:j=m
     ·subst ej;rw[e6,OO (by omega) (by omega),Tk (by omega)];have:=qf.out (aD.getD j 0) (by rw[e3];exact Ab _) (by rw[e3];exact(xQ.out.step j (by omega)).1) u (by rw[sF];exact hu);have ez:bd g.x.s (aD.getD j 0)-g.from j=0:=by unfold OG.from;rw[e3];omega
      rw[ez,Eu]at this;exact this
     ·have tT:=WQ (L:=L) (fun h=>ej h.symm:m≠j);have:=J6.out j (by omega) lL u (by rw[sF];exact hu);rw[e6]at this⊢;rw[ZY (L:=L) (by omega) (by omega) (by omega)];exact this
    clear Ux abI VK Ow aj qe qf YF J6 YJ;simp only[Al,Ag,Ai,Act.put,Aa,Ad,Ac];refine jw ?_;go_wp2_with fail;go_roundg m
    case measure=>omega
    case rel=>exact⟨m,rfl,by omega,rfl,ax⟩
   ·have aiY:k=0:=(by omega);subst aiY
    have ax:Hid (∃(wf wd:List Nat),oO wr g 0 wf wd/\aa af w wr):=by
     obtain⟨ak,wf,wd,hO,hF,hZ,IF⟩:=HI.out;obtain⟨e1,e2,e3,_⟩:=mD.out;obtain⟨rfl,hZ2⟩:=hZ rfl;exact⟨wf,wd,⟨hO,by rw[e3];omega,fun j hj=>by rw[e3]at hj⊢;exact hF j (Am _) hj,by rw[e3];exact hZ2⟩,IF⟩
    clear HI;go_wp2_with fail;go_ret;obtain⟨wf,wd,hO,IF⟩:=ax.out;obtain⟨e1,e2,e3,e4,e5,e6,e7,e8,e9,ve,sF,yh,DR,DS,DT,Lc,Ld,Le,Lf,Lg⟩:=mD.out;refine⟨g,wf,wd,by rw[e1];rfl,⟨sF,yh,DR,DS,DT,Lc,Ld,by rw[e1];omega,by rw[ve];omega,Le,Lf,by rw[Lg];omega,by rw[e2];omega,by rw[e7];omega,by rw[e5];omega⟩,J9.out,hO,IF⟩
theorem anq(s:ByteArray)(w:World)(hs:s.size<=281474976710656):Calls prog 93 #[.string s] w fun e w'=>e=.returned (.string s)/\aa af w w':=by
 have F:=ab (agT s w hs);go_in;go_wp2_with fail;refine(F.out).mono ?_;rintro e w1 ⟨rfl,hk⟩;go_wp2_with fail;go_ret;exact⟨rfl,hk⟩
def mx(n N:Nat):List Value:=List.replicate n (.int .i64 (-1))++List.replicate (N-n) (.int .i64 0)
theorem amX(h:n<=N):(mx n N).length=N:=by unfold mx;simp;omega
theorem amW(h:k<n):(mx n N)[k]? =some (.int .i64 (-1)):=by
 unfold mx;rw[A6 (by simpa using h)];simp[h]
theorem amY(h:n+k<=N):splice (mx n N) n (List.replicate k (.int .i64 (-1)))=mx (n+k) N:=by
 unfold splice mx;rw[List.take_append_of_le_length (by simp),By (by simp)];rw[Cj,List.drop_append,Fa (by simp),Dk,Cj,List.drop_replicate,<-Bw,List.replicate_append_replicate];congr 2;omega
theorem akz(n:Nat):madeCells #[.int .i64 0] n=(mx 0 n).toArray:=by
 unfold madeCells mx;refine Array.ext (by simp) fun k h1 h2=>?_
 simp[Gd]
theorem afp{P:Program}{o:Oper}{a:Act}{K:Act->World->Prop}{Q:Exit->Act->World->Prop}(d s:Operand)(dT sT:TypeId)
 (ho:o.op=.call {callee:=.builtin .copy,args:=#[d,s],argTypes:=#[dT,sT]})(elem:TypeId)(hu:P.underlying dT=some (.slice elem))(aS:(P.info? elem).map (·.size)=some 1)
 (g n N k c1 c2:Nat)(ad:Addr)(Tw WV:Nat)(hd:a.eval d=.slice (some ⟨g,n,none⟩) Tw c1)(hs:a.eval s=.slice (some ad) WV c2)(t:TypeId)(hg:aq w g (mx n N).toArray t)(hk:Nat.min WV Tw=k)(Md:n+k<=N)
 (AU:∀j,j<k->w.cell? (ad.add j)=some (.int .i64 (-1)))
 (h:∀w',aq w' g (mx (n+k) N).toArray t->aa (fun i=>i=g) w w'->K (a.put o.dst (goInt k)) w'):o.wp P a w K Q:=by
 have sX:=run_copy_row P w dT sT o.type elem g n Tw c1 ad WV c2 (mx n N).toArray t (List.replicate k (.int .i64 (-1))) hu aS hg (by rw[Cj,hk]) (fun j v hv=>by
  have hj:j<k:=by have:=(Ah.1 hv).1;simpa using this
  rw[Cz,if_pos hj]at hv;rw[<-hv];exact AU j hj) (by simp[amX (show n<=N by omega)];omega) (fun v hv=>by rw[Dy hv];rfl)
 unfold Oper.wp;simp[execOp,ho,resolve,invoke,builtin,hd,hs,sX,Result.andThen];refine h _ ?_ (aa.row g _);have:=setRow_heap w g _ (List.take n (mx n N)++(List.replicate k (Value.int .i64 (-1))++List.drop (n+k) (mx n N))).toArray t _ hg;rw[<-amY Md];unfold splice aq;rw[Cj];exact this
def wK(W:World):Prop:=True
theorem am6(w:World)(b N:Nat)(hb:w.cell? ⟨b,0,none⟩=some (.int .i64 (-1)))(hN:N<=1000000):Calls prog 92 #[.slice (some ⟨b,0,none⟩) 1 1,.int .i64 (N:Int)] w fun e w'=>∃gb,w.heap.size<=gb/\e=.returned (.slice (some ⟨gb,0,none⟩) N N)/\aq w' gb (List.replicate N (.int .i64 (-1))).toArray 3/\aa af w w':=by
 have UC:=Bh _ _ hb
 have F:Hid (Calls prog 117 #[.int .u64 1,.int .u64 (N:Int)] w fun e w'=>e=.returned (.tuple #[.int .u64 0,.int .u64 (N:Int)])/\w'=w):=by
  have:=akV 1 N (by omega) (by omega) w;have e1:1*N/18446744073709551616=0:=by omega
  have e2:1*N % 18446744073709551616=N:=by omega
  rw[e1,e2]at this;exact this
 have qA:=fun W=>Go.run_make_row' (P:=prog) 22 3 (.int .i64 0) 8 underlying22 Tryz.VG rfl .i64 .i64 N (by omega) (by omega) W
 have B1:Hid (aq (w.alloc (.cells (madeCells #[.int .i64 0] N) 3)) w.heap.size (mx 0 N).toArray 3):=by
  have:=aq.new w (madeCells #[.int .i64 0] N) 3;rw[akz]at this⊢;exact this
 have K1:Hid (aa af w (w.alloc (.cells (madeCells #[.int .i64 0] N) 3))):=(aa.refl af w).alloc _;have jD:(w.alloc (.cells (madeCells #[.int .i64 0] N) 3)).cell? ⟨b,0,none⟩=some (.int .i64 (-1)):=(K1.out.cell (p:=⟨b,0,none⟩) UC (fun h=>h)).trans hb;have abG:(prog.info? 3).map (·.size)=some 1:=by kernel_rfl
 obtain⟨k0,YE⟩:∃k0,Hid (Nat.min 1 N=k0):=⟨_,(rfl:_=_)⟩
 have vE:k0<=N/\k0<=1/\(0<N->k0=1):=by have:=YE.out;have e:Nat.min 1 N=min 1 N:=rfl;omega
 go_in
 go_wp2_with fail
 refine(F.out).mono ?_;rintro e w0 ⟨rfl,hw0⟩;rw[hw0];go_wp2_with (refine wpList_plain rfl fun K hK=>afp (.tmp 31) (.tmp 32) 22 22 rfl 3 underlying22 abG w.heap.size 0 N k0 N 1 ⟨b,0,none⟩ N 1 rfl rfl 3 B1.out ?p1 ?p2 ?p3 ?_)
 case p1=>exact YE.out
 case p2=>omega
 case p3=>
  intro j hj;have:j=0:=by omega
  subst this;exact jD
 intro w2 od aO
 have dr:Hid (aq w2 w.heap.size (mx k0 N).toArray 3/\aa af w w2):=by
  exact⟨od,K1.out.bV aO (fun i hi e=>by omega)⟩
 clear od aO jD B1 K1 qA F;go_wp2_with fail;go_loopg [8] (N-k0) (fun kk v wr=>∃n:Nat,v=.int .i64 (n:Int)/\k0<=n/\n<=N/\kk=N-n/\Hid (aq wr w.heap.size (mx n N).toArray 3/\aa af w wr))
 case atStart=>exact⟨k0,rfl,Ab _,vE.1,rfl,dr⟩
 case round=>
  obtain⟨n,rfl,o9,jS,eT,HI⟩:=hrel;clear dr;by_cases aw:n<N
  ·have jH:(n:Int)<(N:Int):=(by omega);go_wp2_with fail;refine jW (gW (S:=wK) 9 (by kernel_rfl) rfl rfl rfl (by kernel_rfl) (by kernel_rfl) ?_);refine ai 0 38 (.int .i64 (n:Int)) (trivial:wK _) ?_;refine ai 1 39 (.slice (some ⟨w.heap.size,0,none⟩) N N) (trivial:wK _) ?_;refine ai 2 40 (.int .i64 (n:Int)) (trivial:wK _) ?_;refine pj 3 41 (.slice (some ⟨w.heap.size,n,none⟩) (N-n) (N-n)) rfl rfl (by kernel_rfl) (by kernel_rfl) (by kernel_rfl) (fun _ _ _ h=>h) (Or.inl ⟨by rfl,fun W eP=>by go_simp;omega⟩) (trivial:wK _) ?_;refine ai 4 42 (.slice (some ⟨w.heap.size,0,none⟩) N N) (trivial:wK _) ?_;refine ai 5 43 (.int .i64 (n:Int)) (trivial:wK _) ?_;refine ai 6 44 (.slice (some ⟨w.heap.size,0,none⟩) n N) (trivial:wK _) ?_;simp only[Act.put,Aa,Ad,Ac];obtain⟨q,HQ⟩:∃q,Hid (Nat.min n (N-n)=q):=⟨_,(rfl:_=_)⟩
   have hq:q<=n/\n+q<=N/\0<q:=by have:=HQ.out;have e:Nat.min n (N-n)=min n (N-n):=rfl;omega
   refine bN 7 fun K hK=>?_
   have hB:aq wr.drew w.heap.size (mx n N).toArray 3:=HI.out.1
   have AU:∀j,j<q->wr.drew.cell? (Addr.add ⟨w.heap.size,0,none⟩ j)=some (.int .i64 (-1)):=fun j hj=>by
    have e:(⟨w.heap.size,0,none⟩:Addr).add j=⟨w.heap.size,j,none⟩:=by unfold Addr.add;split<;>simp_all
    rw[e,hB.cell j];have:=amW (n:=n) (N:=N) (k:=j) (by omega);simpa using this
   refine afp (.tmp 41) (.tmp 44) 22 22 rfl 3 underlying22 abG w.heap.size n N q (N-n) N ⟨w.heap.size,0,none⟩ (N-n) n rfl rfl 3 hB HQ.out hq.2.1 AU ?_;intro w5 gy cV;have uJ:Hid (aq w5 w.heap.size (mx (n+q) N).toArray 3/\aa af w w5):=⟨gy,(HI.out.2.drew).bV cV (fun i hi e=>by omega)⟩;clear gy cV hB AU HI;refine hK.out _ _ (trivial:wK _) (fun _=>?_);clear hK K;simp only[Al,Ag,Ai,Act.put,Aa,Ad,Ac];refine bN 8 fun K hK=>?_
   go_simp;refine hK.out _ _ (trivial:wK _) (fun _=>?_);clear hK K;refine At (by kernel_rfl) ?_ _;unfold eJ;go_simp;refine jw ?_;go_wp2_with fail;go_roundg (N-(n+q))
   case measure=>omega
   case rel=>exact⟨n+q,by simp;rw[Cv];omega,by omega,hq.2.1,rfl,uJ⟩
  ·have hn:n=N:=by omega
   have ax:Hid (aq wr w.heap.size (List.replicate N (.int .i64 (-1))).toArray 3/\aa af w wr):=by
    have:=HI.out;rw[hn]at this;have e:mx N N=List.replicate N (.int .i64 (-1)):=by unfold mx;simp
    rw[e]at this;exact this
   have jH:¬(n:Int)<(N:Int):=(by omega);clear HI;go_wp2_with fail;go_ret;exact⟨w.heap.size,Ab _,rfl,ax.out.1,ax.out.2⟩
end Go.Proofs.YtpdnofhackjfdaaGreatDoor
