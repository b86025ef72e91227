/- Package whole's  -/
import Derived.Test.YtpdnofhackjfdaaGreatDoorP24
set_option linter.all false
set_option maxRecDepth 100000
set_option maxHeartbeats 8000000
namespace Go.Proofs.YtpdnofhackjfdaaGreatDoor
open Go.Proofs.Tryz
open Go.RowKit Go.Maps
variable {N k n:Nat} {w:World}
def NoS(b:Nat)(sv:Value)(st G:Int)(x:CX)(W:World):Prop:=(W.cell? (GB b 0)=some sv/\W.cell? (GB b 1)=some (GW st)/\W.cell? (GB b 2)=some (GW G))/\W.cell? ⟨b+1,0,none⟩=some (.string x.s)/\W.cell? ⟨b+1,1,none⟩=some (GW x.aE)/\W.cell? ⟨b+1,2,none⟩=some (.int .i32 x.ah)/\W.cell? ⟨b+1,3,none⟩=some (.int .i32 x.bh)/\W.cell? ⟨b+1,4,none⟩=some (.bool x.op)
theorem Ym{base:Nat}{v:Value}{L WB:Nat}(h:Uo w base v N L WB)(hN:0<N):∃rh cr,v=.slice (some (GB rh 0)) N cr/\base<=rh/\rh<w.heap.size/\∀k,k<N->w.cell? (GB rh k)=some (.slice (some ⟨WB,k*L,none⟩) L L):=by
 obtain⟨g,c,hv,l1,l2,l3,l4,l5⟩:=mO h hN;refine⟨g,c,hv,l1,l2,fun k hk=>?_⟩;rw[l4 k hk];simp[hk,sG]
def PJ(b ob:Nat)(sv bv:Value)(W:World):Prop:=W.cell? (GB b 0)=some sv/\W.cell? (GB ob 8)=some bv
def aan(b ob fh n cf FB L eQ:Nat)(x:CX)(W:World):Prop:=W.cell? (GB ob 9)=some (.slice (some (GB fh 0)) n cf)/\W.cell? (GB fh eQ)=some (.slice (some ⟨FB,eQ*L,none⟩) L L)/\W.cell? ⟨b+1,0,none⟩=some (.string x.s)
def aam(ob fh n cf FB L b rh nr cr WB:Nat)(W:World):Prop:=(W.cell? (GB ob 9)=some (.slice (some (GB fh 0)) n cf)/\W.cell? (GB ob 11)=some (.slice (some (GB rh 0)) nr cr))/\W.cell? (GB fh b)=some (.slice (some ⟨FB,b*L,none⟩) L L)/\W.cell? (GB rh 0)=some (.slice (some (GB WB 0)) L L)
theorem adL{lo hi mb c:Nat}{vs:List Sv}{ms:List MS}{x:CX}{st G:Int}(hM:jj w lo hi mb c vs ms)(hg:fg ms)(hq:iJ G ms)(dy:ms.length<=4001)(hs:x.s.size<=10000000)(JE:0<=x.aE/\x.aE<=1000000000000):
 Calls prog 60 #[.agg #[.slice (some (GB mb 0)) ms.length c,GW st,GW G],.agg #[.string x.s,GW x.aE,.int .i32 x.ah,.int .i32 x.bh,.bool x.op]] w fun e w'=>∃(g:OG) (wf wr:List Nat),e=.returned (BT g.ob 0)/\(g.ms=ms/\g.x=x/\g.st=st/\g.G=G/\g.mb=mb/\g.c=c/\g.vs=vs/\w.heap.size<=g.ob/\w.heap.size<=g.WB/\g.lo=lo/\g.hi=hi/\w.heap.size<=g.cR/\w.heap.size<=g.fh/\w.heap.size<=g.rh/\w.heap.size<=g.FB)/\g.Ok/\pd w' g 0 wf wr/\aa ai w w':=by
 have HM:=ab hM;have pV:=ab hg;have HQ:=ab hq;clear hM hg hq;go_in;go_wp2_with fail;have B2:Hid (au ((w.alloc (.cells #[.slice (some (GB mb 0)) ms.length c,GW st,GW G] 73)).alloc (.cells #[.string x.s,GW x.aE,.int .i32 x.ah,.int .i32 x.bh,.bool x.op] 105)) w.heap.size #[.slice (some (GB mb 0)) ms.length c,GW st,GW G] 73):=(au.new w _ _).alloc _
 have B3:Hid (au ((w.alloc (.cells #[.slice (some (GB mb 0)) ms.length c,GW st,GW G] 73)).alloc (.cells #[.string x.s,GW x.aE,.int .i32 x.ah,.int .i32 x.bh,.bool x.op] 105)) (w.heap.size+1) #[.string x.s,GW x.aE,.int .i32 x.ah,.int .i32 x.bh,.bool x.op] 105):=by
  have:=au.new (w.alloc (.cells #[.slice (some (GB mb 0)) ms.length c,GW st,GW G] 73)) #[.string x.s,GW x.aE,.int .i32 x.ah,.int .i32 x.bh,.bool x.op] 105;rw[fP]at this;exact this
 have K1:Hid (aa ai w ((w.alloc (.cells #[.slice (some (GB mb 0)) ms.length c,GW st,GW G] 73)).alloc (.cells #[.string x.s,GW x.aE,.int .i32 x.ah,.int .i32 x.bh,.bool x.op] 105))):=((aa.refl ai w).alloc _).alloc _;have cZ:((w.alloc (.cells #[.slice (some (GB mb 0)) ms.length c,GW st,GW G] 73)).alloc (.cells #[.string x.s,GW x.aE,.int .i32 x.ah,.int .i32 x.bh,.bool x.op] 105)).heap.size=w.heap.size+1+1:=by simp
 generalize((w.alloc (.cells #[.slice (some (GB mb 0)) ms.length c,GW st,GW G] 73)).alloc (.cells #[.string x.s,GW x.aE,.int .i32 x.ah,.int .i32 x.bh,.bool x.op] 105))=w1 at*
 have PS:Hid (∀W,aa ai w1 W->NoS w.heap.size (.slice (some (GB mb 0)) ms.length c) st G x W):=fun W k=>by
  have b2:=B2.o.kept k (fun h=>h);have b3:=B3.o.kept k (fun h=>h);exact⟨⟨b2.cell 0,b2.cell 1,b2.cell 2⟩,b3.cell 0,b3.cell 1,b3.cell 2,b3.cell 3,b3.cell 4⟩
 have ak:=PS.o w1.drew (aa.refl ai w1).drew;refine j_ (gD (S:=NoS w.heap.size (.slice (some (GB mb 0)) ms.length c) st G x) 7 (by kernel_rfl) rfl rfl rfl (by kernel_rfl) (by kernel_rfl) ?_);refine aj 0 9 (.agg #[.slice (some (GB mb 0)) ms.length c,GW st,GW G]) ak ?_;refine aj 1 10 (.agg #[.string x.s,GW x.aE,.int .i32 x.ah,.int .i32 x.bh,.bool x.op]) ak ?_;refine aj 2 11 (.pointer (some ⟨w.heap.size+1,0,none⟩)) ak ?_;refine aj 3 12 (.string x.s) ak ?_;simp only[Act.put,Aa,Ad,Ac];refine bR 4 fun K hK=>?_
 have F:=ab (agX x.s w1.drew (by omega));go_simp;refine(F.o).mono ?_;rintro e w2 ⟨bv,aH,rfl,k2,dU,nb⟩;dsimp only;have K2:Hid (aa ai w1 w2):=(aa.refl ai w1).drew.trans k2;refine hK.o _ _ (PS.o _ K2.o) (fun _=>?_);clear hK K F;have ark:=nb.cM;obtain⟨cR,cb,tf,l1,l2,l3,l4,l5⟩:=mO dU (by omega);subst tf;have aqu:w.heap.size+1+1<=cR:=by have:w1.drew.heap.size=w1.heap.size:=rfl;omega
 have yw:=ab nb;have ZB:Hid (∀k,k<aH.length->w2.cell? (GB cR k)=some (GW (bd x.s (aH.getD k 0):Int))):=fun k hk=>by rw[l4 k hk,aaH hk]
 clear nb dU l4 l5 l1 l3 k2 ak;refine bR 5 fun K hK=>?_
 go_simp;refine hK.o _ _ (PS.o _ K2.o) (fun _=>?_);clear hK K;refine bR 6 fun K hK=>?_
 go_simp;have kB:aa ai w2 (w2.alloc (.cells #[.slice (some (GB mb 0)) ms.length c,GW st,GW G,.string x.s,GW x.aE,.int .i32 x.ah,.int .i32 x.bh,.bool x.op,.slice (some (GB cR 0)) aH.length cb,.slice none 0 0,GW 0,.slice none 0 0] 170)):=(aa.refl ai w2).alloc _;refine hK.o _ _ (PS.o _ (K2.o.trans kB)) (fun _=>?_);clear hK K;have B5:Hid (au (w2.alloc (.cells #[.slice (some (GB mb 0)) ms.length c,GW st,GW G,.string x.s,GW x.aE,.int .i32 x.ah,.int .i32 x.bh,.bool x.op,.slice (some (GB cR 0)) aH.length cb,.slice none 0 0,GW 0,.slice none 0 0] 170)) w2.heap.size (Iw (.slice (some (GB mb 0)) ms.length c) st G x (.slice (some (GB cR 0)) aH.length cb) (.slice none 0 0) 0 (.slice none 0 0)) 170):=au.new w2 _ _;have ri:(w2.alloc (.cells #[.slice (some (GB mb 0)) ms.length c,GW st,GW G,.string x.s,GW x.aE,.int .i32 x.ah,.int .i32 x.bh,.bool x.op,.slice (some (GB cR 0)) aH.length cb,.slice none 0 0,GW 0,.slice none 0 0] 170)).heap.size=w2.heap.size+1:=fP _ _;have Tm:Hid (au (w2.alloc (.cells #[.slice (some (GB mb 0)) ms.length c,GW st,GW G,.string x.s,GW x.aE,.int .i32 x.ah,.int .i32 x.bh,.bool x.op,.slice (some (GB cR 0)) aH.length cb,.slice none 0 0,GW 0,.slice none 0 0] 170)) w.heap.size #[.slice (some (GB mb 0)) ms.length c,GW st,GW G] 73):=B2.o.kept (K2.o.trans kB) (fun h=>h);have To:Hid (au (w2.alloc (.cells #[.slice (some (GB mb 0)) ms.length c,GW st,GW G,.string x.s,GW x.aE,.int .i32 x.ah,.int .i32 x.bh,.bool x.op,.slice (some (GB cR 0)) aH.length cb,.slice none 0 0,GW 0,.slice none 0 0] 170)) (w.heap.size+1) #[.string x.s,GW x.aE,.int .i32 x.ah,.int .i32 x.bh,.bool x.op] 105):=B3.o.kept (K2.o.trans kB) (fun h=>h);have K3:Hid (aa ai w (w2.alloc (.cells #[.slice (some (GB mb 0)) ms.length c,GW st,GW G,.string x.s,GW x.aE,.int .i32 x.ah,.int .i32 x.bh,.bool x.op,.slice (some (GB cR 0)) aH.length cb,.slice none 0 0,GW 0,.slice none 0 0] 170))):=(K1.o.trans K2.o).trans kB;have ZC:Hid (∀k,k<aH.length->(w2.alloc (.cells #[.slice (some (GB mb 0)) ms.length c,GW st,GW G,.string x.s,GW x.aE,.int .i32 x.ah,.int .i32 x.bh,.bool x.op,.slice (some (GB cR 0)) aH.length cb,.slice none 0 0,GW 0,.slice none 0 0] 170)).cell? (GB cR k)=some (GW (bd x.s (aH.getD k 0):Int))):=fun k hk=>(kB.cell (p:=(GB cR k)) l2 (fun h=>h)).trans (ZB.o k hk)
 refine At (by kernel_rfl) ?_ _;unfold eo;simp only[Ak,Ag,Ah];go_simp;refine jE ?_;have gg:=K2.o.size;generalize w2.alloc (.cells #[.slice (some (GB mb 0)) ms.length c,GW st,GW G,.string x.s,GW x.aE,.int .i32 x.ah,.int .i32 x.bh,.bool x.op,.slice (some (GB cR 0)) aH.length cb,.slice none 0 0,GW 0,.slice none 0 0] 170)=w3 at*;clear kB PS B2 B3 K1 K2 ZB;obtain⟨ob,kD⟩:∃ob,ob=w2.heap.size:=⟨_,rfl⟩
 rw[<-kD]at B5 ri l2 gg⊢;have aq6:ob<w3.heap.size/\w3.heap.size<=ob+1:=by omega
 have acF:w.heap.size+1+1<=w1.heap.size:=by omega
 clear kD ri cZ;obtain⟨nr,Pv⟩:∃nr,Hid (nr=min x.s.size 4100+1):=⟨_,(rfl:_=_)⟩
 have hnr:nr<=4101:=by have:=Pv.o;omega
 have Np:0<nr:=by have:=Pv.o;omega
 have Rv:min (x.s.size:Int) 4100+1=(nr:Int):=by have:=Pv.o;omega
 obtain⟨L,HL⟩:∃L,Hid (L=ms.length/64+1):=⟨_,(rfl:_=_)⟩
 have cs:w3.cell? ⟨w.heap.size+1,0,none⟩=some (.string x.s):=To.o.cell 0;have cm:w3.cell? (GB w.heap.size 0)=some (.slice (some (GB mb 0)) ms.length c):=Tm.o.cell 0;have F:=ab (XN nr ms.length L HL.o (by omega) dy w3);go_wp2_with fail;refine(F.o).mono ?_;rintro e w4 ⟨rv,rfl,dU,hbW,k4⟩;obtain⟨rh,cr,hrv,r1,r2,hrc⟩:=Ym dU Np;subst hrv;have OU:=B5.o.kept k4 (fun h=>h);have c11:w4.cell? (GB ob 11)=some (.slice none 0 0):=OU.cell 11;have f11:=OU.frozen 11;have kS:aa (fun i=>i=ob) w4 (w4.setCell (GB ob 11) (.slice (some (GB rh 0)) nr cr)):=(aa.refl (fun i=>i=ob) w4).setCell (p:=(GB ob 11)) (Or.inl rfl) _;have qi:=k4.size;have arn:w.heap.size+1+1<=ob:=by omega
 have Ts:Hid (au (w4.setCell (GB ob 11) (.slice (some (GB rh 0)) nr cr)) ob (Iw (.slice (some (GB mb 0)) ms.length c) st G x (.slice (some (GB cR 0)) aH.length cb) (.slice none 0 0) 0 (.slice (some (GB rh 0)) nr cr)) 170):=by
  have:=OU.setCell 11 (.slice (some (GB rh 0)) nr cr);show au _ _ _ _
  simpa[Iw]using this
 have K5:Hid (aa ai w (w4.setCell (GB ob 11) (.slice (some (GB rh 0)) nr cr))):=(K3.o.trans k4).b_ kS (fun i hi e=>by omega);have Tn:=ab ((Tm.o.kept k4 (fun h=>h)).kept kS (by omega));have Y5:=ab ((To.o.kept k4 (fun h=>h)).kept kS (by omega));have ZD:Hid (∀k,k<aH.length->(w4.setCell (GB ob 11) (.slice (some (GB rh 0)) nr cr)).cell? (GB cR k)=some (GW (bd x.s (aH.getD k 0):Int))):=fun k hk=>(kS.cell (p:=(GB cR k)) (by show cR<_;omega) (by show¬cR=ob;omega)).trans ((k4.cell (p:=(GB cR k)) (by show cR<_;omega) (fun h=>h)).trans (ZC.o k hk))
 have aaa:Hid (∀k,k<nr->(w4.setCell (GB ob 11) (.slice (some (GB rh 0)) nr cr)).cell? (GB rh k)=some (.slice (some ⟨w3.heap.size,k*L,none⟩) L L)):=fun k hk=>(kS.cell (p:=(GB rh k)) r2 (by show¬rh=ob;omega)).trans (hrc k hk)
 have Zw:=ab (hbW.kept kS (by omega));have RH:(w4.setCell (GB ob 11) (.slice (some (GB rh 0)) nr cr)).heap.size=w4.heap.size:=by simp[World.setCell]
 clear dU hrc hbW k4 OU kS F Tm To K3 ZC B5 cs cm;go_wp2_with fail;generalize w4.setCell (GB ob 11) (.slice (some (GB rh 0)) nr cr)=w5 at*;rw[<-RH]at r2 qi;clear RH;have AM:Hid (∀W,aa ai w5 W->PJ w.heap.size ob (.slice (some (GB mb 0)) ms.length c) (.slice (some (GB cR 0)) aH.length cb) W):=fun W k=>⟨(Tn.o.kept k (fun h=>h)).cell 0,(Ts.o.kept k (fun h=>h)).cell 8⟩
 have ak:=AM.o w5.drew (aa.refl ai w5).drew;have aqE:=yw.o.bN;refine j_ (gD (S:=PJ w.heap.size ob (.slice (some (GB mb 0)) ms.length c) (.slice (some (GB cR 0)) aH.length cb)) 12 (by kernel_rfl) rfl rfl rfl (by kernel_rfl) (by kernel_rfl) ?_);refine aj 0 28 (BT ob 0) ak ?_;refine aj 1 29 (BT ob 0) ak ?_;refine aj 2 30 (BT ob 0) ak ?_;refine aj 3 31 (BT ob 8) ak ?_;refine aj 4 32 (.slice (some (GB cR 0)) aH.length cb) ak ?_;refine aj 5 33 (GW (aH.length:Int)) ak ?_;refine aj 6 34 (BT w.heap.size 0) ak ?_;refine aj 7 35 (.slice (some (GB mb 0)) ms.length c) ak ?_;refine aj 8 36 (GW (ms.length:Int)) ak ?_;simp only[Act.put,Aa,Ad,Ac];refine bR 9 fun K hK=>?_
 have F:=ab (XN aH.length ms.length L HL.o (by omega) dy w5.drew);go_simp;refine(F.o).mono ?_;rintro e w6 ⟨fv,rfl,dU,VZ,k6⟩;dsimp only;have xU:aa ai w5 w6:=(aa.refl ai w5).drew.trans k6;have ai_:w5.drew.heap.size=w5.heap.size:=rfl;rw[ai_]at dU VZ;obtain⟨fh,cf,Wg,q1,q2,JK⟩:=Ym dU (by omega);subst Wg;have tX:=ab xU;refine hK.o _ _ (AM.o _ tX.o) (fun _=>?_);clear hK K F;refine bR 10 fun K hK=>?_
 go_simp;refine hK.o _ _ (AM.o _ tX.o) (fun _=>?_);clear hK K;refine bR 11 fun K hK=>?_
 go_simp;refine hK.o _ _ (AM.o _ tX.o) (fun _=>?_);clear hK K;refine At (by kernel_rfl) ?_ _;unfold eo;simp only[Ak,Ag,Ah];have OV:=Ts.o.kept xU (fun h=>h);have c9:w6.cell? (GB ob 9)=some (.slice none 0 0):=OV.cell 9;have f9:=OV.frozen 9;have kS:aa (fun i=>i=ob) w6 (w6.setCell (GB ob 9) (.slice (some (GB fh 0)) aH.length cf)):=(aa.refl (fun i=>i=ob) w6).setCell (p:=(GB ob 9)) (Or.inl rfl) _;have WS:=xU.size
 have Tt:Hid (au (w6.setCell (GB ob 9) (.slice (some (GB fh 0)) aH.length cf)) ob (Iw (.slice (some (GB mb 0)) ms.length c) st G x (.slice (some (GB cR 0)) aH.length cb) (.slice (some (GB fh 0)) aH.length cf) 0 (.slice (some (GB rh 0)) nr cr)) 170):=by
  have:=OV.setCell 9 (.slice (some (GB fh 0)) aH.length cf);show au _ _ _ _
  simpa[Iw]using this
 have K7:Hid (aa ai w (w6.setCell (GB ob 9) (.slice (some (GB fh 0)) aH.length cf))):=(K5.o.trans xU).b_ kS (fun i hi e=>by omega);have Y4:=ab ((Tn.o.kept xU (fun h=>h)).kept kS (by omega));have Y6:=ab ((Y5.o.kept xU (fun h=>h)).kept kS (by omega));have ZE:Hid (∀k,k<aH.length->(w6.setCell (GB ob 9) (.slice (some (GB fh 0)) aH.length cf)).cell? (GB cR k)=some (GW (bd x.s (aH.getD k 0):Int))):=fun k hk=>(kS.cell (p:=(GB cR k)) (by show cR<_;omega) (by show¬cR=ob;omega)).trans ((xU.cell (p:=(GB cR k)) (by show cR<_;omega) (fun h=>h)).trans (ZD.o k hk))
 have aab:Hid (∀k,k<nr->(w6.setCell (GB ob 9) (.slice (some (GB fh 0)) aH.length cf)).cell? (GB rh k)=some (.slice (some ⟨w3.heap.size,k*L,none⟩) L L)):=fun k hk=>(kS.cell (p:=(GB rh k)) (by show rh<_;omega) (by show¬rh=ob;omega)).trans ((xU.cell (p:=(GB rh k)) r2 (fun h=>h)).trans (aaa.o k hk))
 have ZI:Hid (∀k,k<aH.length->(w6.setCell (GB ob 9) (.slice (some (GB fh 0)) aH.length cf)).cell? (GB fh k)=some (.slice (some ⟨w5.heap.size,k*L,none⟩) L L)):=fun k hk=>(kS.cell (p:=(GB fh k)) q2 (by show¬fh=ob;omega)).trans (JK k hk)
 have Zx:=ab ((Zw.o.kept xU (fun h=>h)).kept kS (by omega));have Zq:=ab (VZ.kept kS (by omega));have JW:(w6.setCell (GB ob 9) (.slice (some (GB fh 0)) aH.length cf)).heap.size=w6.heap.size:=by simp[World.setCell]
 clear dU JK VZ k6 xU OV kS tX AM ak Tn Y5 Ts K5 ZD aaa Zw;go_simp;refine jE ?_;generalize w6.setCell (GB ob 9) (.slice (some (GB fh 0)) aH.length cf)=w7 at*;rw[<-JW]at q2 WS;clear c9 f9 JW;go_wp2_with fail;have Um:Hid (∀W,aa ai w7 W->PJ w.heap.size ob (.slice (some (GB mb 0)) ms.length c) (.slice (some (GB cR 0)) aH.length cb) W):=fun W k=>⟨(Y4.o.kept k (fun h=>h)).cell 0,(Tt.o.kept k (fun h=>h)).cell 8⟩
 have ak:=Um.o w7.drew (aa.refl ai w7).drew;obtain⟨eQ,EM⟩:∃eQ,Hid (aH.length=eQ+1):=⟨aH.length-1,by show _=_;omega⟩
 refine j_ (Cl (by kernel_rfl) (Ci (S:=PJ w.heap.size ob (.slice (some (GB mb 0)) ms.length c) (.slice (some (GB cR 0)) aH.length cb)) _ _ _ _ ?_));refine aj 0 40 (BT ob 0) ak ?_;refine aj 1 41 (BT ob 0) ak ?_;refine aj 2 42 (BT ob 8) ak ?_;refine aj 3 43 (.slice (some (GB cR 0)) aH.length cb) ak ?_;refine aj 4 44 (GW (aH.length:Int)) ak ?_;refine mP 5 45 (GW (eQ:Int)) rfl rfl (by kernel_rfl) (by kernel_rfl) (by kernel_rfl) (fun _ _ _ h=>h) (Or.inl ⟨by rfl,fun W ff=>by obtain⟨s0,s1⟩:=ff;go_simp;rw[Cr];have:=EM.o;omega⟩) ak ?_;refine aj 6 46 (BT w.heap.size 0) ak ?_;refine aj 7 47 (.slice (some (GB mb 0)) ms.length c) ak ?_;refine aj 8 48 (GW (ms.length:Int)) ak ?_;simp only[Act.put,Aa,Ad,Ac];refine bR 9 fun K hK=>?_
 have F:Hid (Calls prog 86 #[GW 1,GW (ms.length:Int)] w7.drew _):=XN 1 ms.length L HL.o (by omega) dy w7.drew;go_simp;refine(F.o).mono ?_;rintro e w8 ⟨nv,rfl,dU,Q7,k8⟩;dsimp only;have wA:aa ai w7 w8:=(aa.refl ai w7).drew.trans k8;have ajd:w7.drew.heap.size=w7.heap.size:=rfl;rw[ajd]at dU Q7;obtain⟨nh,cn,Nq,n1,n2,Nm⟩:=Ym dU (by omega);subst Nq;have cn0:w8.cell? (GB nh 0)=some (.slice (some (GB w7.heap.size 0)) L L):=by have:=Nm 0 (by omega);rw[Eo]at this;exact this
 rw[Nat.one_mul]at Q7;have K78:=ab wA;have xE:=Um.o _ K78.o;refine hK.o _ _ xE (fun _=>?_);clear hK K F;refine aj 12 6 (GW (eQ:Int)) xE ?_;simp only[Act.put,Aa,Ad,Ac];refine bR 10 fun K hK=>?_
 go_simp;refine hK.o _ _ xE (fun _=>?_);clear hK K;refine bR 11 fun K hK=>?_
 go_simp;refine hK.o _ _ xE (fun _=>?_);clear hK K;refine bR 13 fun K hK=>?_
 go_simp;refine hK.o _ _ xE (fun _=>?_);clear hK K;refine At (by kernel_rfl) ?_ _;refine jE ?_;have hs8:=wA.size;have hTl:=HM.o.jS.lt;have hMl:=HM.o.iz.lt;have hHl:=HM.o.le;have K8:=ab (K7.o.trans wA);have aqH:=K8.o.size;obtain⟨g,ia⟩:∃g:OG,g=⟨ob,lo,hi,mb,c,vs,ms,x,st,G,cR,cb,aH,fh,cf,w5.heap.size,rh,cr,w3.heap.size,nr,L⟩:=⟨_,rfl⟩
 have Lh:Hid g.Ok:=by
  rw[ia];exact{fJ:=pV.o,q:=HQ.o,bN:=dy,size:=hs,aE:=JE,I6:=HL.o,bg:=yw.o,adQ:=Pv.o,Qh:=⟨by show w5.heap.size≠ob;omega,by show w5.heap.size≠mb;omega,by show¬(lo<=w5.heap.size/\w5.heap.size<hi);omega,by show w5.heap.size≠_;omega,by show w5.heap.size≠_;omega⟩,L6:=⟨by show w3.heap.size≠ob;omega,by show w3.heap.size≠mb;omega,by show¬(lo<=w3.heap.size/\w3.heap.size<hi);omega,by show w3.heap.size≠_;omega,by show w3.heap.size≠_;omega⟩,Jg:=⟨by show ob≠mb;omega,by show¬(lo<=ob/\ob<hi);omega,by show ob≠_;omega,by show ob≠_;omega⟩,ne:=⟨by show w3.heap.size≠w5.heap.size;omega,⟨by show w3.heap.size≠cR;omega,by show w3.heap.size≠fh;omega,by show w3.heap.size≠rh;omega⟩,⟨by show w5.heap.size≠cR;omega,by show w5.heap.size≠fh;omega,by show w5.heap.size≠rh;omega⟩,⟨by show ob≠cR;omega,by show ob≠fh;omega,by show ob≠rh;omega⟩⟩}
 have xn:Hid (iB w8 g 0 (List.replicate (aH.length*L) 0) (List.replicate (nr*L) 0)):=by
  rw[ia];have M8:=HM.o.kept K8.o;exact{rk:=⟨Tt.o.kept wA (fun h=>h),M8.iz,M8.wR,M8.le,M8.jS⟩,bg:=fun k hk=>(wA.cell (p:=(GB cR k)) (by show cR<_;omega) (fun h=>h)).trans (ZE.o k hk),fh:=fun k hk=>(wA.cell (p:=(GB fh k)) q2 (fun h=>h)).trans (ZI.o k hk),rh:=fun k hk=>(wA.cell (p:=(GB rh k)) (by show rh<_;omega) (fun h=>h)).trans (aab.o k hk),lt:=⟨by show cR<_;omega,by show fh<_;omega,by show rh<_;omega⟩,bf:=Zq.o.kept wA (fun h=>h),bw:=Zx.o.kept wA (fun h=>h),fl:=⟨by simp,gu.KM _⟩,wl:=⟨by simp,gu.KM _⟩}
 have OT:=ab (Y6.o.kept wA (fun h=>h));have w_:=ab Q7;have UM:w8.cell? ⟨w.heap.size+1,4,none⟩=some (.bool x.op):=OT.o.cell 4;have qT:g.ob=ob/\g.fh=fh/\g.aH=aH/\g.cf=cf/\g.FB=w5.heap.size/\g.L=L/\g.rh=rh/\g.nr=nr/\g.cr=cr/\g.WB=w3.heap.size/\g.ms=ms/\g.x=x/\g.st=st/\g.G=G/\g.mb=mb/\g.c=c/\g.vs=vs/\g.lo=lo/\g.hi=hi/\g.cR=cR:=by rw[ia];exact⟨rfl,rfl,rfl,rfl,rfl,rfl,rfl,rfl,rfl,rfl,rfl,rfl,rfl,rfl,rfl,rfl,rfl,rfl,rfl,rfl⟩
 have mU:=ab qT;clear dU Nm k8 wA K78 xE ak Um ia qT Q7 Y4 Y6 Tt K7 ZE aab ZI Zx Zq cn0
 have PX:Hid (∀w9 aO,aa (fun i=>i=w5.heap.size) w8 w9->aO.length=L->gu aO->au w9 w5.heap.size (dr (splice (List.replicate (aH.length*L) 0) (eQ*L) aO)).toArray 207->(∀u:Nat,u<ms.length->gz aO 0 u=dV ms x u x.n)->∃(aq:Nat) (wf wd:List Nat),iB w9 g aq wf wd/\(∀j,eQ<=j->j<aH.length->AQ g wf j (aH.getD j 0))/\(eQ=0->aq=0/\vy g wd 0 (aH.getD 0 0))/\aa ai w w9):=fun w9 aO DG fC bl GN vX=>by
  obtain⟨e1,e2,e3,e4,e5,e6,e7,e8,e9,vK,sX,yP,Gs,Gt,Gu,Mj,Mk,Ml,Mm,Mn⟩:=mU.o;have JP:=EM.o;have ta:=HL.o
  have uw:eQ*L+L<=(List.replicate (aH.length*L) 0).length:=by
   rw[Co];have:=Bv L (show eQ+1<=aH.length by omega);rw[Cw]at this;omega
  have gX:(splice (List.replicate (aH.length*L) 0) (eQ*L) aO).length=aH.length*L:=by rw[Dh _ _ _ (by rw[fC];exact uw),Co]
  refine⟨0,splice (List.replicate (aH.length*L) 0) (eQ*L) aO,List.replicate (nr*L) 0,xn.o.aeZ Lh.o (by rw[e5];exact DG) (by rw[e5];exact GN) ⟨by rw[e3,e6];exact gX,(gu.KM _).splice bl _⟩,fun j r_ lY=>?_,fun h0=>by omega,K8.o.b_ DG (fun i hi he=>by omega)⟩;have hj:j=eQ:=by omega
  subst hj;have uC:=yw.o.eQ;rw[show aH.length-1=j by omega]at uC;rw[uC];intro u hu;rw[sX]at hu⊢;rw[e6,yP,Qo (by rw[fC];exact uw) (by rw[fC];omega)];exact vX u hu
 have aqT:1<=eQ:=by have:=EM.o;omega
 cases eG:x.op
 all_goals rw[eG]at UM
 case' false=>
  go_wp2_with fail
  have PS7:Hid (∀W,aa ai w8 W->aan w.heap.size ob fh aH.length cf w5.heap.size L eQ x W):=fun W k=>by
   have O:=xn.o.kept k;obtain⟨e1,e2,e3,e4,e5,e6,_⟩:=mU.o;have a1:=O.rk.o.cell 9;have a2:=O.fh eQ (by rw[e3];have:=EM.o;omega);rw[e1]at a1;rw[e2,e5,e6]at a2;refine⟨?_,a2,(OT.o.kept k (fun h=>h)).cell 0⟩;rw[a1];show some g.fv=_
   unfold OG.fv;rw[e2,e3,e4]
  have ak:=PS7.o w8.drew (aa.refl ai w8).drew;have uC:eQ<aH.length:=by have:=EM.o;omega
  refine j_ (gD (S:=aan w.heap.size ob fh aH.length cf w5.heap.size L eQ x) 12 (by kernel_rfl) rfl rfl rfl (by kernel_rfl) (by kernel_rfl) ?_);refine aj 0 62 (BT ob 0) ak ?_;refine aj 1 63 (BT ob 0) ak ?_;refine aj 2 64 (BT ob 0) ak ?_;refine aj 3 65 (BT ob 9) ak ?_;refine aj 4 66 (.slice (some (GB fh 0)) aH.length cf) ak ?_;refine aj 5 67 (GW (eQ:Int)) ak ?_;refine aj 6 68 (BT fh eQ) ak ?_;refine aj 7 69 (.slice (some ⟨w5.heap.size,eQ*L,none⟩) L L) ak ?_;refine aj 8 70 (.slice (some (GB w7.heap.size 0)) L L) ak ?_;refine aj 9 71 (.pointer (some ⟨w.heap.size+1,0,none⟩)) ak ?_;refine aj 10 72 (.string x.s) ak ?_;refine aj 11 73 (GW (x.s.size:Int)) ak ?_;simp only[Act.put,Aa,Ad,Ac];refine At (by kernel_rfl) ?_ _;unfold eo;simp only[Ak,Ag,Ah];go_simp;have ta:=HL.o
  have Hz:Calls prog 88 #[BT ob 0,.slice (some ⟨w5.heap.size,eQ*L,none⟩) L L,.slice (some (GB w7.heap.size 0)) L L,GW (x.s.size:Int)] w8.drew fun e w'=>e=.returned (.tuple #[])/\aa (fun i=>i=w5.heap.size) w8.drew w'/\∃aO,aO.length=L/\gu aO/\au w' w5.heap.size (dr (splice (List.replicate (aH.length*L) 0) (eQ*L) aO)).toArray 207/\(True->∀u:Nat,u<ms.length->gz aO 0 u=dV ms x u x.n):=by
   obtain⟨e1,e2,e3,e4,e5,e6,e7,e8,e9,vK,sX,yP,Gs,Gt,Gu,Mj,Mk,Ml,Mm,Mn⟩:=mU.o;have hR:=xn.o.rk.kept ((aa.refl ai w8).drew) (fun h=>h) (fun h=>h) (fun _ _ _ h=>h) (fun h=>h) (fun h=>h);have hB:=xn.o.bf;have hA:=Lh.o.Qh;have pB:=xn.o.fl.1;rw[e5]at hB hA;rw[sX,yP]at hR;rw[e1]at hR hA
   have uw:eQ*L+L<=(List.replicate (aH.length*L) 0).length:=by
    rw[Co];have:=Bv L (show eQ+1<=aH.length by omega);rw[Cw]at this;omega
   have gx:bd x.s (aJ x.s).length=x.s.size:=nI (Ab _)
   have:=aeO (c1:=L) (c2:=L) (i:=(aJ x.s).length) (H:=True) (B2:=w7.heap.size) (o2:=0) hR pV.o HQ.o dy (by omega) (show(aJ x.s).length<=x.n from Ab _) (by rw[eG,Ew]) ta (show au w8.drew w5.heap.size (dr (List.replicate (aH.length*L) 0)).toArray 207 from hB) uw hA (by
    intro W aO hk fC bl vY;refine⟨List.replicate L 0,gu.KM L,fun k uz=>?_,fun _ u hu=>by rw[aaJ,show decide ((aJ x.s).length<x.n)=false from Bg (Nat.lt_irrefl _),Ew]⟩;have hb:=w_.o.cell k;rw[zZ (by rw[Co];exact uz)]at hb;rw[Ba];exact(hk.cell (p:=(GB w7.heap.size k)) (by show w7.heap.size<w8.drew.heap.size;have:=w_.o.lt;exact this) (by show¬w7.heap.size=w5.heap.size;omega)).trans hb)
   rw[gx]at this;exact this
  refine Hz.mono ?_;rintro e w9 ⟨rfl,hk9,aO,fC,bl,GN,vX⟩;dsimp only;refine jE ?_;have DG:aa (fun i=>i=w5.heap.size) w8 w9:=(aa.refl (fun i=>i=w5.heap.size) w8).drew.trans hk9;have dD:=ab (PX.o w9 aO DG fC bl GN (vX trivial));clear ta Hz hk9 GN vX bl fC DG PS7 ak xn w_ UM OT PX;go_wp2_with fail
 case' true=>
  have uC:eQ<aH.length:=by have:=EM.o;omega
  have r9:w8.cell? (GB ob 9)=some (.slice (some (GB fh 0)) aH.length cf):=by
   obtain⟨e1,e2,e3,e4,e5,e6,_⟩:=mU.o;have a1:=xn.o.rk.o.cell 9;rw[e1]at a1;rw[a1];show some g.fv=_
   unfold OG.fv;rw[e2,e3,e4]
  have r10:w8.cell? (GB fh eQ)=some (.slice (some ⟨w5.heap.size,eQ*L,none⟩) L L):=by
   obtain⟨e1,e2,e3,e4,e5,e6,_⟩:=mU.o;have a2:=xn.o.fh eQ (by rw[e3];have:=EM.o;omega);rw[e2,e5,e6]at a2;exact a2
  have hi9:¬((aH.length:Int)<=(eQ:Int)):=by omega
  have F:=ab fun(W:World) (h:au W w5.heap.size (dr (List.replicate (aH.length*L) 0)).toArray 207)=>anJ (o:=eQ*L) (L:=L) (c:=L) h (gu.KM _) (by
   rw[Co];have:=Bv L (show eQ+1<=aH.length by omega);rw[Cw]at this;omega) (by have:=HL.o;omega)
  have EA:Hid (au w8 w5.heap.size (dr (List.replicate (aH.length*L) 0)).toArray 207):=by
   obtain⟨e1,e2,e3,e4,e5,_⟩:=mU.o;have:=xn.o.bf;rw[e5]at this;exact this
  go_wp2_with fail
  refine(F.o _ EA.o).mono ?_;rintro e w9 ⟨rfl,DG,aO,fC,bl,GN,vX⟩;have dD:=ab (PX.o w9 aO DG fC bl GN (fun u hu=>by rw[vX u (by have:=HL.o;omega),aml eG (Ab _)]));clear vX bl fC DG GN xn w_ UM OT PX F EA r9 r10 hi9;go_wp2_with fail
 all_goals
  go_loopg [8] eQ (fun kk v wq=>∃k:Nat,v=GW ((k:Int)-1)/\k<=eQ/\kk=k/\Hid (∃(aq:Nat) (wf wd:List Nat),iB wq g aq wf wd/\(∀j,k<=j->j<aH.length->AQ g wf j (aH.getD j 0))/\(k=0->aq=0/\vy g wd 0 (aH.getD 0 0))/\aa ai w wq))
  case atStart=>exact⟨eQ,rfl,Ab _,rfl,dD⟩
  case round=>
   obtain⟨k,rfl,hk,eE,HI⟩:=hrel;clear dD;by_cases wi:0<k
   ·obtain⟨m,rfl⟩:∃m,k=m+1:=⟨k-1,by omega⟩
    have em:((m+1:Nat):Int)-1=(m:Int):=(by omega);rw[em];have gW:(0:Int)<=(m:Int):=(by omega);have zn:m<aH.length:=(by omega);obtain⟨aq,wf,wd,hO,hF,hZ,Jw⟩:=HI.o
    have F:Calls prog 89 #[BT ob 0,GW (m:Int)] wr fun e w'=>e=.returned (.tuple #[])/\∃qy,iB w' g m wf qy/\vy g qy m (g.aH.getD m 0)/\aa (fun i=>i=g.ob\/i=g.WB) wr w':=by
     obtain⟨e1,e2,e3,e4,e5,e6,e7,e8,e9,vK,sX,yP,Gs,Gt,Gu,Mj,Mk,Ml,Mm,Mn⟩:=mU.o;have:=adm Lh.o hO (b:=m) (by rw[e3];omega) (by rw[e3];exact hF (m+1) (Ab _) (by omega));rw[e1]at this⊢;exact this
    have Lf:=ab hF;have ZX:=ab Jw;have F:=ab F;clear hO hF hZ Jw HI em;go_wp2_with fail;refine(F.o).mono ?_;rintro e IM ⟨rfl,qy,B_,MO,k10⟩;have qC:=ab B_;have qE:=ab MO
    have PV:Hid (∀W,aa ai IM W->aam ob fh aH.length cf w5.heap.size L m rh nr cr w3.heap.size W):=fun W kW=>by
     have O:=qC.o.kept kW;obtain⟨e1,e2,e3,e4,e5,e6,e7,e8,e9,vK,_⟩:=mU.o;have a1:=O.rk.o.cell 9;have a2:=O.rk.o.cell 11;have a3:=O.fh m (by rw[e3];omega);have a4:=O.rh 0 (by rw[e8];omega);rw[e1]at a1 a2;rw[e2,e5,e6]at a3;rw[e7,vK,e6]at a4;refine⟨⟨?_,?_⟩,a3,?_⟩
     ·rw[a1];show some g.fv=_;unfold OG.fv;rw[e2,e3,e4]
     ·rw[a2];show some g.rv=_;unfold OG.rv;rw[e7,e8,e9]
     ·rw[a4];unfold sG;rw[Eo]
    have ak:=PV.o IM.drew (aa.refl ai IM).drew;have ZT:=ab k10;clear B_ MO k10 F;go_wp2_with fail;refine j_ (gD (S:=aam ob fh aH.length cf w5.heap.size L m rh nr cr w3.heap.size) 13 (by kernel_rfl) rfl rfl rfl (by kernel_rfl) (by kernel_rfl) ?_);refine aj 0 84 (BT ob 0) ak ?_;refine aj 1 85 (BT ob 0) ak ?_;refine aj 2 86 (BT ob 9) ak ?_;refine aj 3 87 (.slice (some (GB fh 0)) aH.length cf) ak ?_;refine aj 4 88 (GW (m:Int)) ak ?_;refine aj 5 89 (BT fh m) ak ?_;refine aj 6 90 (.slice (some ⟨w5.heap.size,m*L,none⟩) L L) ak ?_;refine aj 7 91 (BT ob 0) ak ?_;refine aj 8 92 (BT ob 0) ak ?_;refine aj 9 93 (BT ob 11) ak ?_;refine aj 10 94 (.slice (some (GB rh 0)) nr cr) ak ?_;refine aj 11 95 (BT rh 0) ak ?_;refine aj 12 96 (.slice (some (GB w3.heap.size 0)) L L) ak ?_;simp only[Act.put,Aa,Ad,Ac];refine At (by kernel_rfl) ?_ _;unfold eo;refine af_ (.tmp 90) (.tmp 96) 173 173 rfl 207 underlying173 (by kernel_rfl) w5.heap.size (m*L) L L L w3.heap.size 0 rfl rfl wf 207 ?l0 (ll qy 0 L) ?l1 ?l2 ?l3 ?_
    case l0=>
     have:=qC.o.bf;rw[mU.o.2.2.2.2.1]at this;exact this
    case l1=>
     refine Kt ?_;have:=qC.o.wl.1;rw[mU.o.2.2.2.2.2.2.2.1,mU.o.2.2.2.2.2.1]at this;have h2:=Bv L Np;omega
    case l2=>
     intro q hq;have h1:=qC.o.wl.1;rw[mU.o.2.2.2.2.2.2.2.1,mU.o.2.2.2.2.2.1]at h1;have h2:=Bv L Np;have h3:=qC.o.bw.cell q;rw[mU.o.2.2.2.2.2.2.2.2.2.1,zZ (by omega)]at h3;rw[SH hq,Ba];exact h3
    case l3=>
     have h1:=qC.o.fl.1;rw[mU.o.2.2.1,mU.o.2.2.2.2.2.1]at h1;have:=Bv L (show m+1<=aH.length by omega);rw[Cw]at this;omega
    intro YY VX aco;have Xm:aa (fun i=>i=w5.heap.size) IM YY:=(aa.refl (fun i=>i=w5.heap.size) IM).drew.trans aco
    have aA:Hid (∃(aq:Nat) (wf wd:List Nat),iB YY g aq wf wd/\(∀j,m<=j->j<aH.length->AQ g wf j (aH.getD j 0))/\(m=0->aq=0/\vy g wd 0 (aH.getD 0 0))/\aa ai w YY):=by
     obtain⟨e1,e2,e3,e4,e5,e6,e7,e8,e9,vK,sX,yP,Gs,Gt,Gu,Mj,Mk,Ml,Mm,Mn⟩:=mU.o;have h1:=qC.o.fl.1;rw[e3,e6]at h1;have h2:=qC.o.wl.1;rw[e8,e6]at h2;have h3:=Bv L (show m+1<=aH.length by omega);rw[Cw]at h3;have h4:=Bv L Np;have WU:(ll qy 0 L).length=L:=Kt (by omega);have gX:(splice wf (m*L) (ll qy 0 L)).length=aH.length*L:=by rw[Dh _ _ _ (by omega)];exact h1
     have hLe:=HL.o;refine⟨m,splice wf (m*L) (ll qy 0 L),qy,qC.o.aeZ Lh.o (by rw[e5];exact Xm) (by rw[e5];exact VX) ⟨by rw[e3,e6];exact gX,qC.o.fl.2.splice (qC.o.wl.2.ll _ _) _⟩,fun j r_ lY u hu=>?_,fun h0=>⟨h0,by have:=qE.o;rw[e3]at this;rw[h0]at this;exact this⟩,(ZX.o.b_ ZT.o (fun i hi he=>by rw[e1,vK]at he;omega)).b_ Xm (fun i hi he=>by omega)⟩;rw[sX]at hu;by_cases ej:j=m
     ·subst ej;rw[e6,Qo (by omega) (by omega),UH (by omega)];have:=qE.o (aH.getD j 0) (by rw[e3];exact Ab _) (by rw[e3];exact(yw.o.step j (by omega)).1) u (by rw[sX];exact hu);have ez:bd g.x.s (aH.getD j 0)-g.from j=0:=by unfold OG.from;rw[e3];omega
      rw[ez,Eo]at this;exact this
     ·have uu:=Yl (L:=L) (fun h=>ej h.symm:m≠j);have:=Lf.o j (by omega) lY u (by rw[sX];exact hu);rw[e6]at this⊢;rw[aaI (L:=L) (by omega) (by omega) (by omega)];exact this
    clear VX aco Xm PV ak qC qE ZT Lf ZX;simp only[Ak,Ag,Ah,Act.put,Aa,Ad,Ac];refine jE ?_;go_wp2_with fail;go_roundg m
    case measure=>omega
    case rel=>exact⟨m,rfl,by omega,rfl,aA⟩
   ·have ajO:k=0:=(by omega);subst ajO
    have aA:Hid (∃(wf wd:List Nat),pd wr g 0 wf wd/\aa ai w wr):=by
     obtain⟨aq,wf,wd,hO,hF,hZ,Jw⟩:=HI.o;obtain⟨e1,e2,e3,_⟩:=mU.o;obtain⟨rfl,hZ2⟩:=hZ rfl;exact⟨wf,wd,⟨hO,by rw[e3];omega,fun j hj=>by rw[e3]at hj⊢;exact hF j (Al _) hj,by rw[e3];exact hZ2⟩,Jw⟩
    clear HI;go_wp2_with fail;go_ret;obtain⟨wf,wd,hO,Jw⟩:=aA.o;obtain⟨e1,e2,e3,e4,e5,e6,e7,e8,e9,vK,sX,yP,Gs,Gt,Gu,Mj,Mk,Ml,Mm,Mn⟩:=mU.o;refine⟨g,wf,wd,by rw[e1];rfl,⟨sX,yP,Gs,Gt,Gu,Mj,Mk,by rw[e1];omega,by rw[vK];omega,Ml,Mm,by rw[Mn];omega,by rw[e2];omega,by rw[e7];omega,by rw[e5];omega⟩,Lh.o,hO,Jw⟩
theorem aou(s:ByteArray)(w:World)(hs:s.size<=281474976710656):Calls prog 93 #[.string s] w fun e w'=>e=.returned (.string s)/\aa ai w w':=by
 have F:=ab (ahH s w hs);go_in;go_wp2_with fail;refine(F.o).mono ?_;rintro e w1 ⟨rfl,hk⟩;go_wp2_with fail;go_ret;exact⟨rfl,hk⟩
def mN(n N:Nat):List Value:=List.replicate n (GW (-1))++List.replicate (N-n) (GW 0)
theorem anW(h:n<=N):(mN n N).length=N:=by unfold mN;simp;omega
theorem anV(h:k<n):(mN n N)[k]? =some (GW (-1)):=by
 unfold mN;rw[Ay (by simpa using h)];simp[h]
theorem anX(h:n+k<=N):splice (mN n N) n (List.replicate k (GW (-1)))=mN (n+k) N:=by
 unfold splice mN;rw[List.take_append_of_le_length (by simp),Bz (by simp)];rw[Co,List.drop_append,Ff (by simp),Dp,Co,List.drop_replicate,<-Bu,List.replicate_append_replicate];congr 2;omega
theorem alr(n:Nat):madeCells #[GW 0] n=(mN 0 n).toArray:=by
 unfold madeCells mN;refine Array.ext (by simp) fun k h1 h2=>?_
 simp[Gl]
theorem af9{P:Program}{o:Oper}{a:Act}{K:Act->World->Prop}{Q:Exit->Act->World->Prop}(d s:Operand)(dT sT:TypeId)
 (ho:o.op=.call {callee:=.builtin .copy,args:=#[d,s],argTypes:=#[dT,sT]})(elem:TypeId)(hu:P.underlying dT=some (.slice elem))(aW:(P.info? elem).map (·.size)=some 1)
 (g n N k c1 c2:Nat)(ad:Addr)(UU Yq:Nat)(hd:a.eval d=.slice (some (GB g n)) UU c1)(hs:a.eval s=.slice (some ad) Yq c2)(t:TypeId)(hg:au w g (mN n N).toArray t)(hk:Nat.min Yq UU=k)(Nn:n+k<=N)
 (CW:∀j,j<k->w.cell? (ad.add j)=some (GW (-1)))
 (h:∀w',au w' g (mN (n+k) N).toArray t->aa (fun i=>i=g) w w'->K (a.put o.dst (goInt k)) w'):o.wp P a w K Q:=by
 have tw:=run_copy_row P w dT sT o.type elem g n UU c1 ad Yq c2 (mN n N).toArray t (List.replicate k (GW (-1))) hu aW hg (by rw[Co,hk]) (fun j v hv=>by
  have hj:j<k:=by have:=(Ai.1 hv).1;simpa using this
  rw[C3,if_pos hj]at hv;rw[<-hv];exact CW j hj) (by simp[anW (show n<=N by omega)];omega) (fun v hv=>by rw[D6 hv];rfl)
 unfold Oper.wp;simp[execOp,ho,resolve,invoke,builtin,hd,hs,tw,Result.andThen];refine h _ ?_ (aa.row g _);have:=setRow_heap w g _ (List.take n (mN n N)++(List.replicate k (GW (-1))++List.drop (n+k) (mN n N))).toArray t _ hg;rw[<-anX Nn];unfold splice au;rw[Co];exact this
def xt(W:World):Prop:=True
theorem an5(w:World)(b N:Nat)(hb:w.cell? (GB b 0)=some (GW (-1)))(hN:N<=1000000):Calls prog 92 #[.slice (some (GB b 0)) 1 1,GW (N:Int)] w fun e w'=>∃gb,w.heap.size<=gb/\e=.returned (.slice (some (GB gb 0)) N N)/\au w' gb (List.replicate N (GW (-1))).toArray 3/\aa ai w w':=by
 have V3:=Bk _ _ hb
 have F:Hid (Calls prog 117 #[.int .u64 1,.int .u64 (N:Int)] w fun e w'=>e=.returned (.tuple #[.int .u64 0,.int .u64 (N:Int)])/\w'=w):=by
  have:=alP 1 N (by omega) (by omega) w;have e1:1*N/18446744073709551616=0:=by omega
  have e2:1*N % 18446744073709551616=N:=by omega
  rw[e1,e2]at this;exact this
 have qV:=fun W=>Go.run_make_row' (P:=prog) 22 3 (GW 0) 8 underlying22 Tryz.Xi rfl .i64 .i64 N (by omega) (by omega) W
 have B1:Hid (au (w.alloc (.cells (madeCells #[GW 0] N) 3)) w.heap.size (mN 0 N).toArray 3):=by
  have:=au.new w (madeCells #[GW 0] N) 3;rw[alr]at this⊢;exact this
 have K1:Hid (aa ai w (w.alloc (.cells (madeCells #[GW 0] N) 3))):=(aa.refl ai w).alloc _;have jM:(w.alloc (.cells (madeCells #[GW 0] N) 3)).cell? (GB b 0)=some (GW (-1)):=(K1.o.cell (p:=(GB b 0)) V3 (fun h=>h)).trans hb;have acm:(prog.info? 3).map (·.size)=some 1:=by kernel_rfl
 obtain⟨k0,ZS⟩:∃k0,Hid (Nat.min 1 N=k0):=⟨_,(rfl:_=_)⟩
 have wi:k0<=N/\k0<=1/\(0<N->k0=1):=by have:=ZS.o;have e:Nat.min 1 N=min 1 N:=rfl;omega
 go_in
 go_wp2_with fail
 refine(F.o).mono ?_;rintro e w0 ⟨rfl,hw0⟩;rw[hw0];go_wp2_with (refine wpList_plain rfl fun K hK=>af9 (.tmp 31) (.tmp 32) 22 22 rfl 3 underlying22 acm w.heap.size 0 N k0 N 1 (GB b 0) N 1 rfl rfl 3 B1.o ?p1 ?p2 ?p3 ?_)
 case p1=>exact ZS.o
 case p2=>omega
 case p3=>
  intro j hj;have:j=0:=by omega
  subst this;exact jM
 intro w2 oB aS
 have dD:Hid (au w2 w.heap.size (mN k0 N).toArray 3/\aa ai w w2):=by
  exact⟨oB,K1.o.b_ aS (fun i hi e=>by omega)⟩
 clear oB aS jM B1 K1 qV F;go_wp2_with fail;go_loopg [8] (N-k0) (fun kk v wr=>∃n:Nat,v=GW (n:Int)/\k0<=n/\n<=N/\kk=N-n/\Hid (au wr w.heap.size (mN n N).toArray 3/\aa ai w wr))
 case atStart=>exact⟨k0,rfl,Ab _,wi.1,rfl,dD⟩
 case round=>
  obtain⟨n,rfl,pE,jZ,eE,HI⟩:=hrel;clear dD;by_cases az:n<N
  ·have jP:(n:Int)<(N:Int):=(by omega);go_wp2_with fail;refine j_ (gD (S:=xt) 9 (by kernel_rfl) rfl rfl rfl (by kernel_rfl) (by kernel_rfl) ?_);refine aj 0 38 (GW (n:Int)) (trivial:xt _) ?_;refine aj 1 39 (.slice (some (GB w.heap.size 0)) N N) (trivial:xt _) ?_;refine aj 2 40 (GW (n:Int)) (trivial:xt _) ?_;refine mP 3 41 (.slice (some (GB w.heap.size n)) (N-n) (N-n)) rfl rfl (by kernel_rfl) (by kernel_rfl) (by kernel_rfl) (fun _ _ _ h=>h) (Or.inl ⟨by rfl,fun W ff=>by go_simp;omega⟩) (trivial:xt _) ?_;refine aj 4 42 (.slice (some (GB w.heap.size 0)) N N) (trivial:xt _) ?_;refine aj 5 43 (GW (n:Int)) (trivial:xt _) ?_;refine aj 6 44 (.slice (some (GB w.heap.size 0)) n N) (trivial:xt _) ?_;simp only[Act.put,Aa,Ad,Ac];obtain⟨q,HQ⟩:∃q,Hid (Nat.min n (N-n)=q):=⟨_,(rfl:_=_)⟩
   have hq:q<=n/\n+q<=N/\0<q:=by have:=HQ.o;have e:Nat.min n (N-n)=min n (N-n):=rfl;omega
   refine bR 7 fun K hK=>?_
   have hB:au wr.drew w.heap.size (mN n N).toArray 3:=HI.o.1
   have CW:∀j,j<q->wr.drew.cell? (Addr.add (GB w.heap.size 0) j)=some (GW (-1)):=fun j hj=>by
    have e:((GB w.heap.size 0):Addr).add j=(GB w.heap.size j):=by unfold Addr.add;split<;>simp_all
    rw[e,hB.cell j];have:=anV (n:=n) (N:=N) (k:=j) (by omega);simpa using this
   refine af9 (.tmp 41) (.tmp 44) 22 22 rfl 3 underlying22 acm w.heap.size n N q (N-n) N (GB w.heap.size 0) (N-n) n rfl rfl 3 hB HQ.o hq.2.1 CW ?_;intro w5 gI cS;have ve:Hid (au w5 w.heap.size (mN (n+q) N).toArray 3/\aa ai w w5):=⟨gI,(HI.o.2.drew).b_ cS (fun i hi e=>by omega)⟩;clear gI cS hB CW HI;refine hK.o _ _ (trivial:xt _) (fun _=>?_);clear hK K;simp only[Ak,Ag,Ah,Act.put,Aa,Ad,Ac];refine bR 8 fun K hK=>?_
   go_simp;refine hK.o _ _ (trivial:xt _) (fun _=>?_);clear hK K;refine At (by kernel_rfl) ?_ _;unfold eo;go_simp;refine jE ?_;go_wp2_with fail;go_roundg (N-(n+q))
   case measure=>omega
   case rel=>exact⟨n+q,by simp;rw[Cr];omega,by omega,hq.2.1,rfl,ve⟩
  ·have hn:n=N:=by omega
   have aA:Hid (au wr w.heap.size (List.replicate N (GW (-1))).toArray 3/\aa ai w wr):=by
    have:=HI.o;rw[hn]at this;have e:mN N N=List.replicate N (GW (-1)):=by unfold mN;simp
    rw[e]at this;exact this
   have jP:¬(n:Int)<(N:Int):=(by omega);clear HI;go_wp2_with fail;go_ret;exact⟨w.heap.size,Ab _,rfl,aA.o.1,aA.o.2⟩
