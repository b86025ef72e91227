/- Package whole's newOutlook -/
import Derived.Test.YtmbpfhlnifdhgaaGreatDoorP16
set_option linter.unusedVariables false
set_option linter.unusedSimpArgs false
set_option maxRecDepth 100000
set_option maxHeartbeats 8000000
namespace Go.Proofs.YtmbpfhlnifdhgaaGreatDoor
open Go.Proofs.Tryz
open Go.RowKit Go.Maps
variable {s:ByteArray} {p:Ev×Nat} {res:gN} {l:List (Ev×Nat)} {gs qa:List Int} {ms:List MS} {wf:List Nat} {vs:List Sv} {G2 N N2 b base ae c cZ gb hi i io MN j k lo mb n u u0:Nat} {T:Nat->gN} {g:OG} {told:Option Nat} {v v':Value} {W w w' w7 wr:World}
def Zw(b:Nat)(sv:Value)(st G:Int)(s:ByteArray)(W:World):Prop:=(W.cell? ⟨b,0,none⟩=some sv/\W.cell? ⟨b,1,none⟩=some (.int .i64 st)/\W.cell? ⟨b,2,none⟩=some (.int .i64 G))/\W.cell? ⟨b+1,0,none⟩=some (.string s)/\W.cell? ⟨b+1,1,none⟩=some (.int .i64 0)/\W.cell? ⟨b+1,2,none⟩=some (.int .i32 (-1))/\W.cell? ⟨b+1,3,none⟩=some (.int .i32 (-1))/\W.cell? ⟨b+1,4,none⟩=some (.bool false)
theorem XM{L WB:Nat}(h:Ts w base v N L WB)(hN:0<N):∃rh cr,v=.slice (some ⟨rh,0,none⟩) N cr/\base<=rh/\rh<w.heap.size/\∀k,k<N->w.cell? ⟨rh,k,none⟩=some (.slice (some ⟨WB,k*L,none⟩) L L):=by
 obtain⟨g,c,hv,l1,l2,l3,l4,l5⟩:=tw h hN;refine⟨g,c,hv,l1,l2,fun k hk=>?_⟩;rw[l4 k hk];simp[hk,tt]
def OM(b ob:Nat)(sv bv:Value)(W:World):Prop:=W.cell? ⟨b,0,none⟩=some sv/\W.cell? ⟨ob,8,none⟩=some bv
def Zy(b ob fh n cf FB L last:Nat)(s:ByteArray)(W:World):Prop:=W.cell? ⟨ob,9,none⟩=some (.slice (some ⟨fh,0,none⟩) n cf)/\W.cell? ⟨fh,last,none⟩=some (.slice (some ⟨FB,last*L,none⟩) L L)/\W.cell? ⟨b+1,0,none⟩=some (.string s)
def Zx(ob fh n cf FB L b rh nr cr WB:Nat)(W:World):Prop:=(W.cell? ⟨ob,9,none⟩=some (.slice (some ⟨fh,0,none⟩) n cf)/\W.cell? ⟨ob,11,none⟩=some (.slice (some ⟨rh,0,none⟩) nr cr))/\W.cell? ⟨fh,b,none⟩=some (.slice (some ⟨FB,b*L,none⟩) L L)/\W.cell? ⟨rh,0,none⟩=some (.slice (some ⟨WB,0,none⟩) L L)
theorem alj{st G:Int}(hM:Fu w lo hi mb c vs ms)(hg:uR ms)(hq:jH G ms)(dg:ms.length<=4001)(hs:s.size<=10000000):
 Calls prog 45 #[.agg #[.slice (some ⟨mb,0,none⟩) ms.length c,.int .i64 st,.int .i64 G],.agg #[.string s,.int .i64 0,.int .i32 (-1),.int .i32 (-1),.bool false]] w fun e w'=>∃(g:OG) (wf wr:List Nat),e=.returned (.pointer (some ⟨g.ob,0,none⟩))/\(g.ms=ms/\g.s=s/\g.st=st/\g.G=G/\g.mb=mb/\g.c=c/\g.vs=vs/\w.heap.size<=g.ob/\w.heap.size<=g.WB/\g.lo=lo/\g.hi=hi/\w.heap.size<=g.da/\w.heap.size<=g.fh/\w.heap.size<=g.rh/\w.heap.size<=g.FB)/\g.Ok/\pW w' g 0 wf wr/\I aq w w':=by
 have HM:=ai hM;have Oq:=ai hg;have HQ:=ai hq;clear hM hg hq;go_in;go_wp2_with fail;have B2:Hid (ay ((w.alloc (.cells #[.slice (some ⟨mb,0,none⟩) ms.length c,.int .i64 st,.int .i64 G] 52)).alloc (.cells #[.string s,.int .i64 0,.int .i32 (-1),.int .i32 (-1),.bool false] 88)) w.heap.size #[.slice (some ⟨mb,0,none⟩) ms.length c,.int .i64 st,.int .i64 G] 52):=(ay.new w _ _).alloc _
 have B3:Hid (ay ((w.alloc (.cells #[.slice (some ⟨mb,0,none⟩) ms.length c,.int .i64 st,.int .i64 G] 52)).alloc (.cells #[.string s,.int .i64 0,.int .i32 (-1),.int .i32 (-1),.bool false] 88)) (w.heap.size+1) #[.string s,.int .i64 0,.int .i32 (-1),.int .i32 (-1),.bool false] 88):=by
  have:=ay.new (w.alloc (.cells #[.slice (some ⟨mb,0,none⟩) ms.length c,.int .i64 st,.int .i64 G] 52)) #[.string s,.int .i64 0,.int .i32 (-1),.int .i32 (-1),.bool false] 88;rw[cR]at this;exact this
 have K1:Hid (I aq w ((w.alloc (.cells #[.slice (some ⟨mb,0,none⟩) ms.length c,.int .i64 st,.int .i64 G] 52)).alloc (.cells #[.string s,.int .i64 0,.int .i32 (-1),.int .i32 (-1),.bool false] 88))):=((I.refl aq w).alloc _).alloc _;have ew:((w.alloc (.cells #[.slice (some ⟨mb,0,none⟩) ms.length c,.int .i64 st,.int .i64 G] 52)).alloc (.cells #[.string s,.int .i64 0,.int .i32 (-1),.int .i32 (-1),.bool false] 88)).heap.size=w.heap.size+1+1:=by simp
 generalize((w.alloc (.cells #[.slice (some ⟨mb,0,none⟩) ms.length c,.int .i64 st,.int .i64 G] 52)).alloc (.cells #[.string s,.int .i64 0,.int .i32 (-1),.int .i32 (-1),.bool false] 88))=w1 at*
 have PS:Hid (∀W,I aq w1 W->Zw w.heap.size (.slice (some ⟨mb,0,none⟩) ms.length c) st G s W):=fun W k=>by
  have b2:=B2.out.kept k (fun h=>h);have b3:=B3.out.kept k (fun h=>h);exact⟨⟨b2.cell 0,b2.cell 1,b2.cell 2⟩,b3.cell 0,b3.cell 1,b3.cell 2,b3.cell 3,b3.cell 4⟩
 have az:=PS.out w1.drew (I.refl aq w1).drew;refine pR (kH (S:=Zw w.heap.size (.slice (some ⟨mb,0,none⟩) ms.length c) st G s) 7 (by kernel_rfl) rfl rfl rfl (by kernel_rfl) (by kernel_rfl) ?_);refine aB 0 9 (.agg #[.slice (some ⟨mb,0,none⟩) ms.length c,.int .i64 st,.int .i64 G]) az ?_;refine aB 1 10 (.agg #[.string s,.int .i64 0,.int .i32 (-1),.int .i32 (-1),.bool false]) az ?_;refine aB 2 11 (.pointer (some ⟨w.heap.size+1,0,none⟩)) az ?_;refine aB 3 12 (.string s) az ?_;simp only[Act.put,Ac,Ak,Aj];refine Ax (rs:=[4]) (by kernel_rfl) (by simp) (An rfl (fun K hK=>?_) As);have F:=ai (agI s w1.drew (by omega));go_simp;refine(F.out).mono ?_;rintro e w2 ⟨bv,aH,rfl,k2,dS,Gi⟩;dsimp only;have K2:Hid (I aq w1 w2):=(I.refl aq w1).drew.trans k2;refine hK.out _ _ (PS.out _ K2.out) (fun _=>?_);clear hK K F;have qP:=Gi.cX;obtain⟨da,cb,hbv,l1,l2,l3,l4,l5⟩:=tw dS (by omega);subst hbv;have apX:w.heap.size+1+1<=da:=by have:w1.drew.heap.size=w1.heap.size:=rfl;omega
 have Fh:=ai Gi;have YS:Hid (∀k,k<aH.length->w2.cell? ⟨da,k,none⟩=some (.int .i64 (bd s (aH.getD k 0):Int))):=fun k hk=>by rw[l4 k hk,aaf hk]
 clear Gi dS l4 l5 l1 l3 k2 az;refine Ax (rs:=[5]) (by kernel_rfl) (by simp) (An rfl (fun K hK=>?_) As);go_simp;refine hK.out _ _ (PS.out _ K2.out) (fun _=>?_);clear hK K;refine Ax (rs:=[6]) (by kernel_rfl) (by simp) (An rfl (fun K hK=>?_) As);go_simp;have kB:I aq w2 (w2.alloc (.cells #[.slice (some ⟨mb,0,none⟩) ms.length c,.int .i64 st,.int .i64 G,.string s,.int .i64 0,.int .i32 (-1),.int .i32 (-1),.bool false,.slice (some ⟨da,0,none⟩) aH.length cb,.slice none 0 0,.int .i64 0,.slice none 0 0] 144)):=(I.refl aq w2).alloc _;refine hK.out _ _ (PS.out _ (K2.out.trans kB)) (fun _=>?_);clear hK K;have B5:Hid (ay (w2.alloc (.cells #[.slice (some ⟨mb,0,none⟩) ms.length c,.int .i64 st,.int .i64 G,.string s,.int .i64 0,.int .i32 (-1),.int .i32 (-1),.bool false,.slice (some ⟨da,0,none⟩) aH.length cb,.slice none 0 0,.int .i64 0,.slice none 0 0] 144)) w2.heap.size (Hg (.slice (some ⟨mb,0,none⟩) ms.length c) st G s (.slice (some ⟨da,0,none⟩) aH.length cb) (.slice none 0 0) 0 (.slice none 0 0)) 144):=ay.new w2 _ _;have Jm:(w2.alloc (.cells #[.slice (some ⟨mb,0,none⟩) ms.length c,.int .i64 st,.int .i64 G,.string s,.int .i64 0,.int .i32 (-1),.int .i32 (-1),.bool false,.slice (some ⟨da,0,none⟩) aH.length cb,.slice none 0 0,.int .i64 0,.slice none 0 0] 144)).heap.size=w2.heap.size+1:=cR _ _;have Su:Hid (ay (w2.alloc (.cells #[.slice (some ⟨mb,0,none⟩) ms.length c,.int .i64 st,.int .i64 G,.string s,.int .i64 0,.int .i32 (-1),.int .i32 (-1),.bool false,.slice (some ⟨da,0,none⟩) aH.length cb,.slice none 0 0,.int .i64 0,.slice none 0 0] 144)) w.heap.size #[.slice (some ⟨mb,0,none⟩) ms.length c,.int .i64 st,.int .i64 G] 52):=B2.out.kept (K2.out.trans kB) (fun h=>h);have Sx:Hid (ay (w2.alloc (.cells #[.slice (some ⟨mb,0,none⟩) ms.length c,.int .i64 st,.int .i64 G,.string s,.int .i64 0,.int .i32 (-1),.int .i32 (-1),.bool false,.slice (some ⟨da,0,none⟩) aH.length cb,.slice none 0 0,.int .i64 0,.slice none 0 0] 144)) (w.heap.size+1) #[.string s,.int .i64 0,.int .i32 (-1),.int .i32 (-1),.bool false] 88):=B3.out.kept (K2.out.trans kB) (fun h=>h);have K3:Hid (I aq w (w2.alloc (.cells #[.slice (some ⟨mb,0,none⟩) ms.length c,.int .i64 st,.int .i64 G,.string s,.int .i64 0,.int .i32 (-1),.int .i32 (-1),.bool false,.slice (some ⟨da,0,none⟩) aH.length cb,.slice none 0 0,.int .i64 0,.slice none 0 0] 144))):=(K1.out.trans K2.out).trans kB;have YT:Hid (∀k,k<aH.length->(w2.alloc (.cells #[.slice (some ⟨mb,0,none⟩) ms.length c,.int .i64 st,.int .i64 G,.string s,.int .i64 0,.int .i32 (-1),.int .i32 (-1),.bool false,.slice (some ⟨da,0,none⟩) aH.length cb,.slice none 0 0,.int .i64 0,.slice none 0 0] 144)).cell? ⟨da,k,none⟩=some (.int .i64 (bd s (aH.getD k 0):Int))):=fun k hk=>(kB.cell (p:=⟨da,k,none⟩) l2 (fun h=>h)).trans (YS.out k hk)
 refine Ba (by kernel_rfl) ?_ _;unfold iu;simp only[A4,Am,Ap];go_simp;refine oP ?_;have oJ:=K2.out.size;generalize w2.alloc (.cells #[.slice (some ⟨mb,0,none⟩) ms.length c,.int .i64 st,.int .i64 G,.string s,.int .i64 0,.int .i32 (-1),.int .i32 (-1),.bool false,.slice (some ⟨da,0,none⟩) aH.length cb,.slice none 0 0,.int .i64 0,.slice none 0 0] 144)=w3 at*;clear kB PS B2 B3 K1 K2 YS;obtain⟨ob,VO⟩:∃ob,ob=w2.heap.size:=⟨_,rfl⟩
 rw[<-VO]at B5 Jm l2 oJ⊢;have aqH:ob<w3.heap.size/\w3.heap.size<=ob+1:=by omega
 have ach:w.heap.size+1+1<=w1.heap.size:=by omega
 clear VO Jm ew;obtain⟨nr,Oz⟩:∃nr,Hid (nr=min s.size 4100+1):=⟨_,(rfl:_=_)⟩
 have VK:nr<=4101:=by have:=Oz.out;omega
 have Qv:0<nr:=by have:=Oz.out;omega
 have Vz:min (s.size:Int) 4100+1=(nr:Int):=by have:=Oz.out;omega
 obtain⟨L,HL⟩:∃L,Hid (L=ms.length/64+1):=⟨_,(rfl:_=_)⟩
 have cs:w3.cell? ⟨w.heap.size+1,0,none⟩=some (.string s):=Sx.out.cell 0;have cm:w3.cell? ⟨w.heap.size,0,none⟩=some (.slice (some ⟨mb,0,none⟩) ms.length c):=Su.out.cell 0;have F:=ai (WX nr ms.length L HL.out (by omega) dg w3);go_wp2_with fail;refine(F.out).mono ?_;rintro e w4 ⟨rv,rfl,dS,hbW,k4⟩;obtain⟨rh,cr,hrv,r1,r2,hrc⟩:=XM dS Qv;subst hrv;have Oc:=B5.out.kept k4 (fun h=>h);have c11:w4.cell? ⟨ob,11,none⟩=some (.slice none 0 0):=Oc.cell 11;have f11:=Oc.frozen 11;have kS:I (fun i=>i=ob) w4 (w4.setCell ⟨ob,11,none⟩ (.slice (some ⟨rh,0,none⟩) nr cr)):=(I.refl (fun i=>i=ob) w4).setCell (p:=⟨ob,11,none⟩) (Or.inl rfl) _;have VY:=k4.size;have aqW:w.heap.size+1+1<=ob:=by omega
 have SB:Hid (ay (w4.setCell ⟨ob,11,none⟩ (.slice (some ⟨rh,0,none⟩) nr cr)) ob (Hg (.slice (some ⟨mb,0,none⟩) ms.length c) st G s (.slice (some ⟨da,0,none⟩) aH.length cb) (.slice none 0 0) 0 (.slice (some ⟨rh,0,none⟩) nr cr)) 144):=by
  have:=Oc.setCell 11 (.slice (some ⟨rh,0,none⟩) nr cr);show ay _ _ _ _
  simpa[Hg]using this
 have K5:Hid (I aq w (w4.setCell ⟨ob,11,none⟩ (.slice (some ⟨rh,0,none⟩) nr cr))):=(K3.out.trans k4).bY kS (fun i hi e=>by omega);have Sw:=ai ((Su.out.kept k4 (fun h=>h)).kept kS (by omega));have Yr:=ai ((Sx.out.kept k4 (fun h=>h)).kept kS (by omega));have YU:Hid (∀k,k<aH.length->(w4.setCell ⟨ob,11,none⟩ (.slice (some ⟨rh,0,none⟩) nr cr)).cell? ⟨da,k,none⟩=some (.int .i64 (bd s (aH.getD k 0):Int))):=fun k hk=>(kS.cell (p:=⟨da,k,none⟩) (by show da<_;omega) (by show¬da=ob;omega)).trans ((k4.cell (p:=⟨da,k,none⟩) (by show da<_;omega) (fun h=>h)).trans (YT.out k hk))
 have Ze:Hid (∀k,k<nr->(w4.setCell ⟨ob,11,none⟩ (.slice (some ⟨rh,0,none⟩) nr cr)).cell? ⟨rh,k,none⟩=some (.slice (some ⟨w3.heap.size,k*L,none⟩) L L)):=fun k hk=>(kS.cell (p:=⟨rh,k,none⟩) r2 (by show¬rh=ob;omega)).trans (hrc k hk)
 have YN:=ai (hbW.kept kS (by omega));have VZ:(w4.setCell ⟨ob,11,none⟩ (.slice (some ⟨rh,0,none⟩) nr cr)).heap.size=w4.heap.size:=by simp[World.setCell]
 clear dS hrc hbW k4 Oc kS F Su Sx K3 YT B5 cs cm;go_wp2_with fail;generalize w4.setCell ⟨ob,11,none⟩ (.slice (some ⟨rh,0,none⟩) nr cr)=w5 at*;rw[<-VZ]at r2 VY;clear VZ;have BR:Hid (∀W,I aq w5 W->OM w.heap.size ob (.slice (some ⟨mb,0,none⟩) ms.length c) (.slice (some ⟨da,0,none⟩) aH.length cb) W):=fun W k=>⟨(Sw.out.kept k (fun h=>h)).cell 0,(SB.out.kept k (fun h=>h)).cell 8⟩
 have az:=BR.out w5.drew (I.refl aq w5).drew;have aqe:=Fh.out.cB;refine pR (kH (S:=OM w.heap.size ob (.slice (some ⟨mb,0,none⟩) ms.length c) (.slice (some ⟨da,0,none⟩) aH.length cb)) 12 (by kernel_rfl) rfl rfl rfl (by kernel_rfl) (by kernel_rfl) ?_);refine aB 0 28 (.pointer (some ⟨ob,0,none⟩)) az ?_;refine aB 1 29 (.pointer (some ⟨ob,0,none⟩)) az ?_;refine aB 2 30 (.pointer (some ⟨ob,0,none⟩)) az ?_;refine aB 3 31 (.pointer (some ⟨ob,8,none⟩)) az ?_;refine aB 4 32 (.slice (some ⟨da,0,none⟩) aH.length cb) az ?_;refine aB 5 33 (.int .i64 (aH.length:Int)) az ?_;refine aB 6 34 (.pointer (some ⟨w.heap.size,0,none⟩)) az ?_;refine aB 7 35 (.slice (some ⟨mb,0,none⟩) ms.length c) az ?_;refine aB 8 36 (.int .i64 (ms.length:Int)) az ?_;simp only[Act.put,Ac,Ak,Aj];refine Ax (rs:=[9]) (by kernel_rfl) (by simp) (An rfl (fun K hK=>?_) As);have F:=ai (WX aH.length ms.length L HL.out (by omega) dg w5.drew);go_simp;refine(F.out).mono ?_;rintro e w6 ⟨fv,rfl,dS,U4,k6⟩;dsimp only;have yw:I aq w5 w6:=(I.refl aq w5).drew.trans k6;have aiN:w5.drew.heap.size=w5.heap.size:=rfl;rw[aiN]at dS U4;obtain⟨fh,cf,Mb,q1,q2,hfc⟩:=XM dS (by omega);subst Mb;have OK:=ai yw;refine hK.out _ _ (BR.out _ OK.out) (fun _=>?_);clear hK K F;refine Ax (rs:=[10]) (by kernel_rfl) (by simp) (An rfl (fun K hK=>?_) As);go_simp;refine hK.out _ _ (BR.out _ OK.out) (fun _=>?_);clear hK K;refine Ax (rs:=[11]) (by kernel_rfl) (by simp) (An rfl (fun K hK=>?_) As);go_simp;refine hK.out _ _ (BR.out _ OK.out) (fun _=>?_);clear hK K;refine Ba (by kernel_rfl) ?_ _;unfold iu;simp only[A4,Am,Ap];have Od:=SB.out.kept yw (fun h=>h);have c9:w6.cell? ⟨ob,9,none⟩=some (.slice none 0 0):=Od.cell 9;have f9:=Od.frozen 9;have kS:I (fun i=>i=ob) w6 (w6.setCell ⟨ob,9,none⟩ (.slice (some ⟨fh,0,none⟩) aH.length cf)):=(I.refl (fun i=>i=ob) w6).setCell (p:=⟨ob,9,none⟩) (Or.inl rfl) _;have V0:=yw.size
 have SC:Hid (ay (w6.setCell ⟨ob,9,none⟩ (.slice (some ⟨fh,0,none⟩) aH.length cf)) ob (Hg (.slice (some ⟨mb,0,none⟩) ms.length c) st G s (.slice (some ⟨da,0,none⟩) aH.length cb) (.slice (some ⟨fh,0,none⟩) aH.length cf) 0 (.slice (some ⟨rh,0,none⟩) nr cr)) 144):=by
  have:=Od.setCell 9 (.slice (some ⟨fh,0,none⟩) aH.length cf);show ay _ _ _ _
  simpa[Hg]using this
 have K7:Hid (I aq w (w6.setCell ⟨ob,9,none⟩ (.slice (some ⟨fh,0,none⟩) aH.length cf))):=(K5.out.trans yw).bY kS (fun i hi e=>by omega);have Yq:=ai ((Sw.out.kept yw (fun h=>h)).kept kS (by omega));have Ys:=ai ((Yr.out.kept yw (fun h=>h)).kept kS (by omega));have YV:Hid (∀k,k<aH.length->(w6.setCell ⟨ob,9,none⟩ (.slice (some ⟨fh,0,none⟩) aH.length cf)).cell? ⟨da,k,none⟩=some (.int .i64 (bd s (aH.getD k 0):Int))):=fun k hk=>(kS.cell (p:=⟨da,k,none⟩) (by show da<_;omega) (by show¬da=ob;omega)).trans ((yw.cell (p:=⟨da,k,none⟩) (by show da<_;omega) (fun h=>h)).trans (YU.out k hk))
 have Zf:Hid (∀k,k<nr->(w6.setCell ⟨ob,9,none⟩ (.slice (some ⟨fh,0,none⟩) aH.length cf)).cell? ⟨rh,k,none⟩=some (.slice (some ⟨w3.heap.size,k*L,none⟩) L L)):=fun k hk=>(kS.cell (p:=⟨rh,k,none⟩) (by show rh<_;omega) (by show¬rh=ob;omega)).trans ((yw.cell (p:=⟨rh,k,none⟩) r2 (fun h=>h)).trans (Ze.out k hk))
 have YZ:Hid (∀k,k<aH.length->(w6.setCell ⟨ob,9,none⟩ (.slice (some ⟨fh,0,none⟩) aH.length cf)).cell? ⟨fh,k,none⟩=some (.slice (some ⟨w5.heap.size,k*L,none⟩) L L)):=fun k hk=>(kS.cell (p:=⟨fh,k,none⟩) q2 (by show¬fh=ob;omega)).trans (hfc k hk)
 have YO:=ai ((YN.out.kept yw (fun h=>h)).kept kS (by omega));have YJ:=ai (U4.kept kS (by omega));have Jn:(w6.setCell ⟨ob,9,none⟩ (.slice (some ⟨fh,0,none⟩) aH.length cf)).heap.size=w6.heap.size:=by simp[World.setCell]
 clear dS hfc U4 k6 yw Od kS OK BR az Sw Yr SB K5 YU Ze YN;go_simp;refine oP ?_;generalize w6.setCell ⟨ob,9,none⟩ (.slice (some ⟨fh,0,none⟩) aH.length cf)=w7 at*;rw[<-Jn]at q2 V0;clear c9 f9 Jn;go_wp2_with fail;have Tq:Hid (∀W,I aq w7 W->OM w.heap.size ob (.slice (some ⟨mb,0,none⟩) ms.length c) (.slice (some ⟨da,0,none⟩) aH.length cb) W):=fun W k=>⟨(Yq.out.kept k (fun h=>h)).cell 0,(SC.out.kept k (fun h=>h)).cell 8⟩
 have az:=Tq.out w7.drew (I.refl aq w7).drew;obtain⟨last,Ks⟩:∃last,Hid (aH.length=last+1):=⟨aH.length-1,by show _=_;omega⟩
 refine pR (Ea (by kernel_rfl) (Dy (S:=OM w.heap.size ob (.slice (some ⟨mb,0,none⟩) ms.length c) (.slice (some ⟨da,0,none⟩) aH.length cb)) _ _ _ _ ?_));refine aB 0 40 (.pointer (some ⟨ob,0,none⟩)) az ?_;refine aB 1 41 (.pointer (some ⟨ob,0,none⟩)) az ?_;refine aB 2 42 (.pointer (some ⟨ob,8,none⟩)) az ?_;refine aB 3 43 (.slice (some ⟨da,0,none⟩) aH.length cb) az ?_;refine aB 4 44 (.int .i64 (aH.length:Int)) az ?_;refine jV 5 45 (.int .i64 (last:Int)) rfl rfl (by kernel_rfl) (by kernel_rfl) (by kernel_rfl) (fun _ _ _ h=>h) (Or.inl ⟨by rfl,fun W dJ=>by obtain⟨s0,s1⟩:=dJ;go_simp;rw[By];have:=Ks.out;omega⟩) az ?_;refine aB 6 46 (.pointer (some ⟨w.heap.size,0,none⟩)) az ?_;refine aB 7 47 (.slice (some ⟨mb,0,none⟩) ms.length c) az ?_;refine aB 8 48 (.int .i64 (ms.length:Int)) az ?_;simp only[Act.put,Ac,Ak,Aj];refine Ax (rs:=[9]) (by kernel_rfl) (by simp) (An rfl (fun K hK=>?_) As);have F:Hid (Calls prog 74 #[.int .i64 1,.int .i64 (ms.length:Int)] w7.drew _):=WX 1 ms.length L HL.out (by omega) dg w7.drew;go_simp;refine(F.out).mono ?_;rintro e w8 ⟨nv,rfl,dS,P3,k8⟩;dsimp only;have kV:I aq w7 w8:=(I.refl aq w7).drew.trans k8;have aiQ:w7.drew.heap.size=w7.heap.size:=rfl;rw[aiQ]at dS P3;obtain⟨nh,cn,VM,n1,n2,Mq⟩:=XM dS (by omega);subst VM;have cn0:w8.cell? ⟨nh,0,none⟩=some (.slice (some ⟨w7.heap.size,0,none⟩) L L):=by have:=Mq 0 (by omega);rw[Nat.zero_mul]at this;exact this
 rw[Nat.one_mul]at P3;have Zp:=ai kV;have IQ:=Tq.out _ Zp.out;refine hK.out _ _ IQ (fun _=>?_);clear hK K F;refine aB 12 6 (.int .i64 (last:Int)) IQ ?_;simp only[Act.put,Ac,Ak,Aj];refine Ax (rs:=[10]) (by kernel_rfl) (by simp) (An rfl (fun K hK=>?_) As);go_simp;refine hK.out _ _ IQ (fun _=>?_);clear hK K;refine Ax (rs:=[11]) (by kernel_rfl) (by simp) (An rfl (fun K hK=>?_) As);go_simp;refine hK.out _ _ IQ (fun _=>?_);clear hK K;refine Ax (rs:=[13]) (by kernel_rfl) (by simp) (An rfl (fun K hK=>?_) As);go_simp;refine hK.out _ _ IQ (fun _=>?_);clear hK K;refine Ba (by kernel_rfl) ?_ _;refine oP ?_;have MD:=kV.size;have hTl:=HM.out.vR.lt;have hMl:=HM.out.qZ.lt;have hHl:=HM.out.le;have K8:=ai (K7.out.trans kV);have aqf:=K8.out.size;obtain⟨g,qg⟩:∃g:OG,g=⟨ob,lo,hi,mb,c,vs,ms,s,st,G,da,cb,aH,fh,cf,w5.heap.size,rh,cr,w3.heap.size,nr,L⟩:=⟨_,rfl⟩
 have Ko:Hid g.Ok:=by
  rw[qg];exact{LB:=Oq.out,q:=HQ.out,cB:=dg,size:=hs,H_:=HL.out,bg:=Fh.out,adx:=Oz.out,OY:=⟨by show w5.heap.size≠ob;omega,by show w5.heap.size≠mb;omega,by show¬(lo<=w5.heap.size/\w5.heap.size<hi);omega,by show w5.heap.size≠_;omega,by show w5.heap.size≠_;omega⟩,KP:=⟨by show w3.heap.size≠ob;omega,by show w3.heap.size≠mb;omega,by show¬(lo<=w3.heap.size/\w3.heap.size<hi);omega,by show w3.heap.size≠_;omega,by show w3.heap.size≠_;omega⟩,Il:=⟨by show ob≠mb;omega,by show¬(lo<=ob/\ob<hi);omega,by show ob≠_;omega,by show ob≠_;omega⟩,ne:=⟨by show w3.heap.size≠w5.heap.size;omega,⟨by show w3.heap.size≠da;omega,by show w3.heap.size≠fh;omega,by show w3.heap.size≠rh;omega⟩,⟨by show w5.heap.size≠da;omega,by show w5.heap.size≠fh;omega,by show w5.heap.size≠rh;omega⟩,⟨by show ob≠da;omega,by show ob≠fh;omega,by show ob≠rh;omega⟩⟩}
 have Ie:Hid (iv w8 g 0 (List.replicate (aH.length*L) 0) (List.replicate (nr*L) 0)):=by
  rw[qg];have M8:=HM.out.kept K8.out;exact{rk:=⟨SC.out.kept kV (fun h=>h),M8.qZ,M8.Hr,M8.le,M8.vR⟩,bg:=fun k hk=>(kV.cell (p:=⟨da,k,none⟩) (by show da<_;omega) (fun h=>h)).trans (YV.out k hk),fh:=fun k hk=>(kV.cell (p:=⟨fh,k,none⟩) q2 (fun h=>h)).trans (YZ.out k hk),rh:=fun k hk=>(kV.cell (p:=⟨rh,k,none⟩) (by show rh<_;omega) (fun h=>h)).trans (Zf.out k hk),lt:=⟨by show da<_;omega,by show fh<_;omega,by show rh<_;omega⟩,bf:=YJ.out.kept kV (fun h=>h),bw:=YO.out.kept kV (fun h=>h),fl:=⟨by simp,h_.N_ _⟩,wl:=⟨by simp,h_.N_ _⟩}
 have Sy:=ai (Ys.out.kept kV (fun h=>h));have SJ:=ai P3;have c34:w8.cell? ⟨w.heap.size+1,4,none⟩=some (.bool false):=Sy.out.cell 4;have vl:g.ob=ob/\g.fh=fh/\g.aH=aH/\g.cf=cf/\g.FB=w5.heap.size/\g.L=L/\g.rh=rh/\g.nr=nr/\g.cr=cr/\g.WB=w3.heap.size/\g.ms=ms/\g.s=s/\g.st=st/\g.G=G/\g.mb=mb/\g.c=c/\g.vs=vs/\g.lo=lo/\g.hi=hi/\g.da=da:=by rw[qg];exact⟨rfl,rfl,rfl,rfl,rfl,rfl,rfl,rfl,rfl,rfl,rfl,rfl,rfl,rfl,rfl,rfl,rfl,rfl,rfl,rfl⟩
 have pT:=ai vl;clear dS Mq k8 kV Zp IQ az Tq qg vl P3 Yq Ys SC K7 YV Zf YZ YO YJ cn0;go_wp2_with fail
 have ZB:Hid (∀W,I aq w8 W->Zy w.heap.size ob fh aH.length cf w5.heap.size L last s W):=fun W k=>by
  have O:=Ie.out.kept k;obtain⟨e1,e2,e3,e4,e5,e6,_⟩:=pT.out;have a1:=O.rk.out.cell 9;have a2:=O.fh last (by rw[e3];have:=Ks.out;omega);rw[e1]at a1;rw[e2,e5,e6]at a2;refine⟨?_,a2,(Sy.out.kept k (fun h=>h)).cell 0⟩;rw[a1];show some g.fv=_
  unfold OG.fv;rw[e2,e3,e4]
 have az:=ZB.out w8.drew (I.refl aq w8).drew;have Gy:last<aH.length:=by have:=Ks.out;omega
 refine pR (kH (S:=Zy w.heap.size ob fh aH.length cf w5.heap.size L last s) 12 (by kernel_rfl) rfl rfl rfl (by kernel_rfl) (by kernel_rfl) ?_);refine aB 0 62 (.pointer (some ⟨ob,0,none⟩)) az ?_;refine aB 1 63 (.pointer (some ⟨ob,0,none⟩)) az ?_;refine aB 2 64 (.pointer (some ⟨ob,0,none⟩)) az ?_;refine aB 3 65 (.pointer (some ⟨ob,9,none⟩)) az ?_;refine aB 4 66 (.slice (some ⟨fh,0,none⟩) aH.length cf) az ?_;refine aB 5 67 (.int .i64 (last:Int)) az ?_;refine aB 6 68 (.pointer (some ⟨fh,last,none⟩)) az ?_;refine aB 7 69 (.slice (some ⟨w5.heap.size,last*L,none⟩) L L) az ?_;refine aB 8 70 (.slice (some ⟨w7.heap.size,0,none⟩) L L) az ?_;refine aB 9 71 (.pointer (some ⟨w.heap.size+1,0,none⟩)) az ?_;refine aB 10 72 (.string s) az ?_;refine aB 11 73 (.int .i64 (s.size:Int)) az ?_;simp only[Act.put,Ac,Ak,Aj];refine Ba (by kernel_rfl) ?_ _;unfold iu;simp only[A4,Am,Ap];go_simp;have tX:=HL.out
 have QB:Calls prog 76 #[.pointer (some ⟨ob,0,none⟩),.slice (some ⟨w5.heap.size,last*L,none⟩) L L,.slice (some ⟨w7.heap.size,0,none⟩) L L,.int .i64 (s.size:Int)] w8.drew fun e w'=>e=.returned (.tuple #[])/\I (fun i=>i=w5.heap.size) w8.drew w'/\∃aU,aU.length=L/\h_ aU/\ay w' w5.heap.size (dP (splice (List.replicate (aH.length*L) 0) (last*L) aU)).toArray 162/\(True->∀u:Nat,u<ms.length->ia aU 0 u=off ms (cG s) u (aW s).length):=by
  obtain⟨e1,e2,e3,e4,e5,e6,e7,e8,e9,xX,u2,CH,Iv,Iw,Ix,Lj,Lk,Ll,Lm,Ln⟩:=pT.out;have hR:=Ie.out.rk.kept ((I.refl aq w8).drew) (fun h=>h) (fun h=>h) (fun _ _ _ h=>h) (fun h=>h) (fun h=>h);have hB:=Ie.out.bf;have hA:=Ko.out.OY;have hfl:=Ie.out.fl.1;rw[e5]at hB hA;rw[u2,CH]at hR;rw[e1]at hR hA
  have qf:last*L+L<=(List.replicate (aH.length*L) 0).length:=by
   rw[Cd];have:=Bb L (show last+1<=aH.length by omega);rw[Ci]at this;omega
  have dX:bd s (aW s).length=s.size:=sI (Aa _)
  have:=aeI (c1:=L) (c2:=L) (i:=(aW s).length) (H:=True) (B2:=w7.heap.size) (o2:=0) hR Oq.out HQ.out dg (by omega) (Aa _) tX (show ay w8.drew w5.heap.size (dP (List.replicate (aH.length*L) 0)).toArray 162 from hB) qf hA (by
   intro W aU hk gU nQ ye;refine⟨List.replicate L 0,h_.N_ L,fun k vv=>?_,fun _ u hu=>by rw[aah];simp⟩;have hb:=SJ.out.cell k;rw[Fb (by rw[Cd];exact vv)]at hb;rw[Co];exact(hk.cell (p:=⟨w7.heap.size,k,none⟩) (by show w7.heap.size<w8.drew.heap.size;have:=SJ.out.lt;exact this) (by show¬w7.heap.size=w5.heap.size;omega)).trans hb)
  rw[dX]at this;exact this
 refine QB.mono ?_;rintro e w9 ⟨rfl,my,aU,gU,nQ,zv,IW⟩;dsimp only;refine oP ?_;have Wv:I (fun i=>i=w5.heap.size) w8 w9:=(I.refl (fun i=>i=w5.heap.size) w8).drew.trans my
 have gg:Hid (∃(ae:Nat) (wf wd:List Nat),iv w9 g ae wf wd/\(∀j,last<=j->j<aH.length->BW g wf j (aH.getD j 0))/\(last=0->ae=0/\we g wd 0 (aH.getD 0 0))/\I aq w w9):=by
  obtain⟨e1,e2,e3,e4,e5,e6,e7,e8,e9,xX,u2,CH,Iv,Iw,Ix,Lj,Lk,Ll,Lm,Ln⟩:=pT.out;have hla:=Ks.out
  have qf:last*L+L<=(List.replicate (aH.length*L) 0).length:=by
   rw[Cd];have:=Bb L (show last+1<=aH.length by omega);rw[Ci]at this;omega
  have lX:(splice (List.replicate (aH.length*L) 0) (last*L) aU).length=aH.length*L:=by rw[Dd _ _ _ (by rw[gU];exact qf),Cd]
  refine⟨0,splice (List.replicate (aH.length*L) 0) (last*L) aU,List.replicate (nr*L) 0,Ie.out.aeN Ko.out (by rw[e5];exact Wv) (by rw[e5];exact zv) ⟨by rw[e3,e6];exact lX,(h_.N_ _).splice nQ _⟩,fun j vo ko=>?_,fun h0=>by omega,K8.out.bY Wv (fun i hi he=>by omega)⟩;have hj:j=last:=by omega
  subst hj;have Gy:=Fh.out.last;rw[show aH.length-1=j by omega]at Gy;rw[Gy];intro u hu;rw[u2]at hu⊢;rw[e6,CH,O9 (by rw[gU];exact qf) (by rw[gU];omega)];exact IW trivial u hu
 have aqn:1<=last:=by have:=Ks.out;omega
 clear tX QB my zv IW nQ gU Wv ZB az Ie SJ c34 Sy;go_wp2_with fail;go_loopg [8] last (fun kk v wq=>∃k:Nat,v=.int .i64 ((k:Int)-1)/\k<=last/\kk=k/\Hid (∃(ae:Nat) (wf wd:List Nat),iv wq g ae wf wd/\(∀j,k<=j->j<aH.length->BW g wf j (aH.getD j 0))/\(k=0->ae=0/\we g wd 0 (aH.getD 0 0))/\I aq w wq))
 case atStart=>exact⟨last,rfl,Aa _,rfl,gg⟩
 case round=>
  obtain⟨k,rfl,hk,gH,HI⟩:=hrel;clear gg;by_cases wP:0<k
  ·obtain⟨m,rfl⟩:∃m,k=m+1:=⟨k-1,by omega⟩
   have em:((m+1:Nat):Int)-1=(m:Int):=(by omega);rw[em];have iR:(0:Int)<=(m:Int):=(by omega);have hml:m<aH.length:=(by omega);obtain⟨ae,wf,wd,hO,hF,hZ,II⟩:=HI.out
   have F:Calls prog 77 #[.pointer (some ⟨ob,0,none⟩),.int .i64 (m:Int)] wr fun e w'=>e=.returned (.tuple #[])/\∃rl,iv w' g m wf rl/\we g rl m (g.aH.getD m 0)/\I (fun i=>i=g.ob\/i=g.WB) wr w':=by
    obtain⟨e1,e2,e3,e4,e5,e6,e7,e8,e9,xX,u2,CH,Iv,Iw,Ix,Lj,Lk,Ll,Lm,Ln⟩:=pT.out;have:=ade Ko.out hO (b:=m) (by rw[e3];omega) (by rw[e3];exact hF (m+1) (Aa _) (by omega));rw[e1]at this⊢;exact this
   have vW:=ai hF;have Y5:=ai II;have F:=ai F;clear hO hF hZ II HI em;go_wp2_with fail;refine(F.out).mono ?_;rintro e gZ ⟨rfl,rl,hO2,hR2,pG⟩;have ru:=ai hO2;have y5:=ai hR2
   have OP:Hid (∀W,I aq gZ W->Zx ob fh aH.length cf w5.heap.size L m rh nr cr w3.heap.size W):=fun W kW=>by
    have O:=ru.out.kept kW;obtain⟨e1,e2,e3,e4,e5,e6,e7,e8,e9,xX,_⟩:=pT.out;have a1:=O.rk.out.cell 9;have a2:=O.rk.out.cell 11;have a3:=O.fh m (by rw[e3];omega);have a4:=O.rh 0 (by rw[e8];omega);rw[e1]at a1 a2;rw[e2,e5,e6]at a3;rw[e7,xX,e6]at a4;refine⟨⟨?_,?_⟩,a3,?_⟩
    ·rw[a1];show some g.fv=_;unfold OG.fv;rw[e2,e3,e4]
    ·rw[a2];show some g.rv=_;unfold OG.rv;rw[e7,e8,e9]
    ·rw[a4];unfold tt;rw[Nat.zero_mul]
   have az:=OP.out gZ.drew (I.refl aq gZ).drew;have Y4:=ai pG;clear hO2 hR2 pG F;go_wp2_with fail;refine pR (kH (S:=Zx ob fh aH.length cf w5.heap.size L m rh nr cr w3.heap.size) 13 (by kernel_rfl) rfl rfl rfl (by kernel_rfl) (by kernel_rfl) ?_);refine aB 0 84 (.pointer (some ⟨ob,0,none⟩)) az ?_;refine aB 1 85 (.pointer (some ⟨ob,0,none⟩)) az ?_;refine aB 2 86 (.pointer (some ⟨ob,9,none⟩)) az ?_;refine aB 3 87 (.slice (some ⟨fh,0,none⟩) aH.length cf) az ?_;refine aB 4 88 (.int .i64 (m:Int)) az ?_;refine aB 5 89 (.pointer (some ⟨fh,m,none⟩)) az ?_;refine aB 6 90 (.slice (some ⟨w5.heap.size,m*L,none⟩) L L) az ?_;refine aB 7 91 (.pointer (some ⟨ob,0,none⟩)) az ?_;refine aB 8 92 (.pointer (some ⟨ob,0,none⟩)) az ?_;refine aB 9 93 (.pointer (some ⟨ob,11,none⟩)) az ?_;refine aB 10 94 (.slice (some ⟨rh,0,none⟩) nr cr) az ?_;refine aB 11 95 (.pointer (some ⟨rh,0,none⟩)) az ?_;refine aB 12 96 (.slice (some ⟨w3.heap.size,0,none⟩) L L) az ?_;simp only[Act.put,Ac,Ak,Aj];refine Ba (by kernel_rfl) ?_ _;unfold iu;refine afE (.tmp 90) (.tmp 96) 147 147 rfl 162 underlying147 (by kernel_rfl) w5.heap.size (m*L) L L L w3.heap.size 0 rfl rfl wf 162 ?l0 (oe rl 0 L) ?l1 ?l2 ?l3 ?_
   case l0=>
    have:=ru.out.bf;rw[pT.out.2.2.2.2.1]at this;exact this
   case l1=>
    refine R6 ?_;have:=ru.out.wl.1;rw[pT.out.2.2.2.2.2.2.2.1,pT.out.2.2.2.2.2.1]at this;have h2:=Bb L Qv;omega
   case l2=>
    intro q hq;have h1:=ru.out.wl.1;rw[pT.out.2.2.2.2.2.2.2.1,pT.out.2.2.2.2.2.1]at h1;have h2:=Bb L Qv;have h3:=ru.out.bw.cell q;rw[pT.out.2.2.2.2.2.2.2.2.2.1,Fb (by omega)]at h3;rw[R5 hq,Co];exact h3
   case l3=>
    have h1:=ru.out.fl.1;rw[pT.out.2.2.1,pT.out.2.2.2.2.2.1]at h1;have:=Bb L (show m+1<=aH.length by omega);rw[Ci]at this;omega
   intro jX U3 ab1;have MO:I (fun i=>i=w5.heap.size) gZ jX:=(I.refl (fun i=>i=w5.heap.size) gZ).drew.trans ab1
   have aO:Hid (∃(ae:Nat) (wf wd:List Nat),iv jX g ae wf wd/\(∀j,m<=j->j<aH.length->BW g wf j (aH.getD j 0))/\(m=0->ae=0/\we g wd 0 (aH.getD 0 0))/\I aq w jX):=by
    obtain⟨e1,e2,e3,e4,e5,e6,e7,e8,e9,xX,u2,CH,Iv,Iw,Ix,Lj,Lk,Ll,Lm,Ln⟩:=pT.out;have h1:=ru.out.fl.1;rw[e3,e6]at h1;have h2:=ru.out.wl.1;rw[e8,e6]at h2;have h3:=Bb L (show m+1<=aH.length by omega);rw[Ci]at h3;have h4:=Bb L Qv;have hsg:(oe rl 0 L).length=L:=R6 (by omega);have lX:(splice wf (m*L) (oe rl 0 L)).length=aH.length*L:=by rw[Dd _ _ _ (by omega)];exact h1
    have hLe:=HL.out;refine⟨m,splice wf (m*L) (oe rl 0 L),rl,ru.out.aeN Ko.out (by rw[e5];exact MO) (by rw[e5];exact U3) ⟨by rw[e3,e6];exact lX,ru.out.fl.2.splice (ru.out.wl.2.oe _ _) _⟩,fun j vo ko u hu=>?_,fun h0=>⟨h0,by have:=y5.out;rw[e3]at this;rw[h0]at this;exact this⟩,(Y5.out.bY Y4.out (fun i hi he=>by rw[e1,xX]at he;omega)).bY MO (fun i hi he=>by omega)⟩;rw[u2]at hu;by_cases ej:j=m
    ·subst ej;rw[e6,O9 (by omega) (by omega),TD (by omega)];have:=y5.out (aH.getD j 0) (by rw[e3];exact Aa _) (by rw[e3];exact(Fh.out.step j (by omega)).1) u (by rw[u2];exact hu);have ez:bd g.s (aH.getD j 0)-g.from j=0:=by unfold OG.from;rw[e3];omega
     rw[ez,Nat.zero_mul]at this;exact this
    ·have PY:=XL (L:=L) (fun h=>ej h.symm:m≠j);have:=vW.out j (by omega) ko u (by rw[u2];exact hu);rw[e6]at this⊢;rw[aag (L:=L) (by omega) (by omega) (by omega)];exact this
   clear U3 ab1 MO OP az ru y5 Y4 vW Y5;simp only[A4,Am,Ap,Act.put,Ac,Ak,Aj];refine oP ?_;go_wp2_with fail;go_roundg m
   case measure=>omega
   case rel=>exact⟨m,rfl,by omega,rfl,aO⟩
  ·have ajj:k=0:=(by omega);subst ajj
   have aO:Hid (∃(wf wd:List Nat),pW wr g 0 wf wd/\I aq w wr):=by
    obtain⟨ae,wf,wd,hO,hF,hZ,II⟩:=HI.out;obtain⟨e1,e2,e3,_⟩:=pT.out;obtain⟨rfl,hZ2⟩:=hZ rfl;exact⟨wf,wd,⟨hO,by rw[e3];omega,fun j hj=>by rw[e3]at hj⊢;exact hF j (Aw _) hj,by rw[e3];exact hZ2⟩,II⟩
   clear HI;go_wp2_with fail;go_ret;obtain⟨wf,wd,hO,II⟩:=aO.out;obtain⟨e1,e2,e3,e4,e5,e6,e7,e8,e9,xX,u2,CH,Iv,Iw,Ix,Lj,Lk,Ll,Lm,Ln⟩:=pT.out;refine⟨g,wf,wd,by rw[e1];rfl,⟨u2,CH,Iv,Iw,Ix,Lj,Lk,by rw[e1];omega,by rw[xX];omega,Ll,Lm,by rw[Ln];omega,by rw[e2];omega,by rw[e7];omega,by rw[e5];omega⟩,Ko.out,hO,II⟩
theorem ant(s:ByteArray)(w:World)(hs:s.size<=281474976710656):Calls prog 81 #[.string s] w fun e w'=>e=.returned (.string s)/\I aq w w':=by
 have F:=ai (ahy s w hs);go_in;go_wp2_with fail;refine(F.out).mono ?_;rintro e w1 ⟨rfl,hk⟩;go_wp2_with fail;go_ret;exact⟨rfl,hk⟩
def ni(n N:Nat):List Value:=List.replicate n (.int .i64 (-1))++List.replicate (N-n) (.int .i64 0)
theorem am1(h:n<=N):(ni n N).length=N:=by unfold ni;simp;omega
theorem am0(h:k<n):(ni n N)[k]? =some (.int .i64 (-1)):=by
 unfold ni;rw[Au (by simpa using h)];simp[h]
theorem am2(h:n+k<=N):splice (ni n N) n (List.replicate k (.int .i64 (-1)))=ni (n+k) N:=by
 unfold splice ni;rw[List.take_append_of_le_length (by simp),Cp (by simp)];rw[Cd,List.drop_append,Ed (by simp),Cs,Cd,List.drop_replicate,<-Cq,List.replicate_append_replicate];congr 2;omega
theorem akV(n:Nat):madeCells #[.int .i64 0] n=(ni 0 n).toArray:=by
 unfold madeCells ni;refine Array.ext (by simp) fun k h1 h2=>?_
 simp[Nat.mod_one]
theorem afD{P:Program}{o:Oper}{a:Act}{K:Act->World->Prop}{Q:Exit->Act->World->Prop}(d s:Operand)(dT sT:TypeId)
 (ho:o.op=.call {callee:=.builtin .copy,args:=#[d,s],argTypes:=#[dT,sT]})(elem:TypeId)(hu:P.underlying dT=some (.slice elem))(bm:(P.info? elem).map (·.size)=some 1)
 (g n N k c1 c2:Nat)(ad:Addr)(T8 XS:Nat)(hd:a.eval d=.slice (some ⟨g,n,none⟩) T8 c1)(hs:a.eval s=.slice (some ad) XS c2)(t:TypeId)(hg:ay w g (ni n N).toArray t)(hk:Nat.min XS T8=k)(hnk:n+k<=N)
 (DQ:∀j,j<k->w.cell? (ad.add j)=some (.int .i64 (-1)))
 (h:∀w',ay w' g (ni (n+k) N).toArray t->I (fun i=>i=g) w w'->K (a.put o.dst (goInt k)) w'):o.wp P a w K Q:=by
 have zC:=run_copy_row P w dT sT o.type elem g n T8 c1 ad XS c2 (ni n N).toArray t (List.replicate k (.int .i64 (-1))) hu bm hg (by rw[Cd,hk]) (fun j v hv=>by
  have hj:j<k:=by have:=(Af.1 hv).1;simpa using this
  rw[Ec,if_pos hj]at hv;rw[<-hv];exact DQ j hj) (by simp[am1 (show n<=N by omega)];omega) (fun v hv=>by rw[D6 hv];rfl)
 unfold Oper.wp;simp[execOp,ho,resolve,invoke,builtin,hd,hs,zC,Result.andThen];refine h _ ?_ (I.row g _);have:=setRow_heap w g _ (List.take n (ni n N)++(List.replicate k (Value.int .i64 (-1))++List.drop (n+k) (ni n N))).toArray t _ hg;rw[<-am2 hnk];unfold splice ay;rw[Cd];exact this
def xQ(W:World):Prop:=True
theorem am_(w:World)(b N:Nat)(hb:w.cell? ⟨b,0,none⟩=some (.int .i64 (-1)))(hN:N<=1000000):Calls prog 80 #[.slice (some ⟨b,0,none⟩) 1 1,.int .i64 (N:Int)] w fun e w'=>∃gb,w.heap.size<=gb/\e=.returned (.slice (some ⟨gb,0,none⟩) N N)/\ay w' gb (List.replicate N (.int .i64 (-1))).toArray 3/\I aq w w':=by
 have ji:=Dq _ _ hb
 have F:Hid (Calls prog 107 #[.int .u64 1,.int .u64 (N:Int)] w fun e w'=>e=.returned (.tuple #[.int .u64 0,.int .u64 (N:Int)])/\w'=w):=by
  have:=ak5 1 N (by omega) (by omega) w;have e1:1*N/18446744073709551616=0:=by omega
  have e2:1*N % 18446744073709551616=N:=by omega
  rw[e1,e2]at this;exact this
 have rS:=fun W=>Eo (P:=prog) 65 3 (.int .i64 0) 8 underlying65 Tryz.zL rfl .i64 .i64 N (by omega) (by omega) W
 have B1:Hid (ay (w.alloc (.cells (madeCells #[.int .i64 0] N) 3)) w.heap.size (ni 0 N).toArray 3):=by
  have:=ay.new w (madeCells #[.int .i64 0] N) 3;rw[akV]at this⊢;exact this
 have K1:Hid (I aq w (w.alloc (.cells (madeCells #[.int .i64 0] N) 3))):=(I.refl aq w).alloc _;have iP:(w.alloc (.cells (madeCells #[.int .i64 0] N) 3)).cell? ⟨b,0,none⟩=some (.int .i64 (-1)):=(K1.out.cell (p:=⟨b,0,none⟩) ji (fun h=>h)).trans hb;have abX:(prog.info? 3).map (·.size)=some 1:=by kernel_rfl
 obtain⟨k0,Y2⟩:∃k0,Hid (Nat.min 1 N=k0):=⟨_,(rfl:_=_)⟩
 have wP:k0<=N/\k0<=1/\(0<N->k0=1):=by have:=Y2.out;have e:Nat.min 1 N=min 1 N:=rfl;omega
 go_in
 go_wp2_with fail
 refine(F.out).mono ?_;rintro e w0 ⟨rfl,hw0⟩;rw[hw0];go_wp2_with (refine wpList_plain rfl fun K hK=>afD (.tmp 31) (.tmp 32) 65 65 rfl 3 underlying65 abX w.heap.size 0 N k0 N 1 ⟨b,0,none⟩ N 1 rfl rfl 3 B1.out ?p1 ?p2 ?p3 ?_)
 case p1=>exact Y2.out
 case p2=>omega
 case p3=>
  intro j hj;have:j=0:=by omega
  subst this;exact iP
 intro w2 iW aG
 have gg:Hid (ay w2 w.heap.size (ni k0 N).toArray 3/\I aq w w2):=by
  exact⟨iW,K1.out.bY aG (fun i hi e=>by omega)⟩
 clear iW aG iP B1 K1 rS F;go_wp2_with fail;go_loopg [8] (N-k0) (fun kk v wr=>∃n:Nat,v=.int .i64 (n:Int)/\k0<=n/\n<=N/\kk=N-n/\Hid (ay wr w.heap.size (ni n N).toArray 3/\I aq w wr))
 case atStart=>exact⟨k0,rfl,Aa _,wP.1,rfl,gg⟩
 case round=>
  obtain⟨n,rfl,kt,sZ,gH,HI⟩:=hrel;clear gg;by_cases ar:n<N
  ·have lW:(n:Int)<(N:Int):=(by omega);go_wp2_with fail;refine pR (kH (S:=xQ) 9 (by kernel_rfl) rfl rfl rfl (by kernel_rfl) (by kernel_rfl) ?_);refine aB 0 38 (.int .i64 (n:Int)) (trivial:xQ _) ?_;refine aB 1 39 (.slice (some ⟨w.heap.size,0,none⟩) N N) (trivial:xQ _) ?_;refine aB 2 40 (.int .i64 (n:Int)) (trivial:xQ _) ?_;refine jV 3 41 (.slice (some ⟨w.heap.size,n,none⟩) (N-n) (N-n)) rfl rfl (by kernel_rfl) (by kernel_rfl) (by kernel_rfl) (fun _ _ _ h=>h) (Or.inl ⟨by rfl,fun W dJ=>by go_simp;omega⟩) (trivial:xQ _) ?_;refine aB 4 42 (.slice (some ⟨w.heap.size,0,none⟩) N N) (trivial:xQ _) ?_;refine aB 5 43 (.int .i64 (n:Int)) (trivial:xQ _) ?_;refine aB 6 44 (.slice (some ⟨w.heap.size,0,none⟩) n N) (trivial:xQ _) ?_;simp only[Act.put,Ac,Ak,Aj];obtain⟨q,HQ⟩:∃q,Hid (Nat.min n (N-n)=q):=⟨_,(rfl:_=_)⟩
   have hq:q<=n/\n+q<=N/\0<q:=by have:=HQ.out;have e:Nat.min n (N-n)=min n (N-n):=rfl;omega
   refine Ax (rs:=[7]) (by kernel_rfl) (by simp) (An rfl (fun K hK=>?_) As);have hB:ay wr.drew w.heap.size (ni n N).toArray 3:=HI.out.1
   have DQ:∀j,j<q->wr.drew.cell? (Addr.add ⟨w.heap.size,0,none⟩ j)=some (.int .i64 (-1)):=fun j hj=>by
    have e:(⟨w.heap.size,0,none⟩:Addr).add j=⟨w.heap.size,j,none⟩:=by unfold Addr.add;split<;>simp_all
    rw[e,hB.cell j];have:=am0 (n:=n) (N:=N) (k:=j) (by omega);simpa using this
   refine afD (.tmp 41) (.tmp 44) 65 65 rfl 3 underlying65 abX w.heap.size n N q (N-n) N ⟨w.heap.size,0,none⟩ (N-n) n rfl rfl 3 hB HQ.out hq.2.1 DQ ?_;intro w5 eY bI;have yW:Hid (ay w5 w.heap.size (ni (n+q) N).toArray 3/\I aq w w5):=⟨eY,(HI.out.2.drew).bY bI (fun i hi e=>by omega)⟩;clear eY bI hB DQ HI;refine hK.out _ _ (trivial:xQ _) (fun _=>?_);clear hK K;simp only[A4,Am,Ap,Act.put,Ac,Ak,Aj];refine Ax (rs:=[8]) (by kernel_rfl) (by simp) (An rfl (fun K hK=>?_) As);go_simp;refine hK.out _ _ (trivial:xQ _) (fun _=>?_);clear hK K;refine Ba (by kernel_rfl) ?_ _;unfold iu;go_simp;refine oP ?_;go_wp2_with fail;go_roundg (N-(n+q))
   case measure=>omega
   case rel=>exact⟨n+q,by simp;rw[By];omega,by omega,hq.2.1,rfl,yW⟩
  ·have hn:n=N:=by omega
   have aO:Hid (ay wr w.heap.size (List.replicate N (.int .i64 (-1))).toArray 3/\I aq w wr):=by
    have:=HI.out;rw[hn]at this;have e:ni N N=List.replicate N (.int .i64 (-1)):=by unfold ni;simp
    rw[e]at this;exact this
   have lW:¬(n:Int)<(N:Int):=(by omega);clear HI;go_wp2_with fail;go_ret;exact⟨w.heap.size,Aa _,rfl,aO.out.1,aO.out.2⟩
def OG.below(g:OG)(b:Nat):Prop:=(g.ob<b/\g.mb<b/\g.hi<=b)/\(0<b/\1<b)/\(g.da<b/\g.fh<b/\g.rh<b)/\g.FB<b/\g.WB<b
theorem iv.below{wr:List Nat}(h:iv w g ae wf wr):g.below w.heap.size:=⟨⟨h.rk.out.lt,h.rk.qZ.lt,h.rk.le⟩,h.rk.vR.lt,h.lt,h.bf.lt,h.bw.lt⟩
theorem iv.zk{wr:List Nat}(h:iv w g ae wf wr)(hb:g.below b)(k:I (fun i=>b<=i) w w'):iv w' g ae wf wr where
 rk:=h.rk.kept k (by have:=hb.1;omega) (by have:=hb.1;omega) (fun i _ h2=>by have:=hb.1;omega) (by have:=hb.2.1;omega) (by have:=hb.2.1;omega)
 bg i hi:=(k.cell (p:=⟨g.da,i,none⟩) h.lt.1 (by have:=hb.2.2.1;show¬b<=g.da;omega)).trans (h.bg i hi)
 fh i hi:=(k.cell (p:=⟨g.fh,i,none⟩) h.lt.2.1 (by have:=hb.2.2.1;show¬b<=g.fh;omega)).trans (h.fh i hi)
 rh i hi:=(k.cell (p:=⟨g.rh,i,none⟩) h.lt.2.2 (by have:=hb.2.2.1;show¬b<=g.rh;omega)).trans (h.rh i hi)
 lt:=by have:=k.size;have:=h.lt;omega
 bf:=h.bf.kept k (by have:=hb.2.2.2;omega)
 bw:=h.bw.kept k (by have:=hb.2.2.2;omega)
 fl:=h.fl
 wl:=h.wl
theorem pW.zk{wr:List Nat}(h:pW w g ae wf wr)(hb:g.below b)(k:I (fun i=>b<=i) w w'):pW w' g ae wf wr:=⟨h.at_.zk hb k,h.lt,h.Lu,h.rows⟩
theorem bA.fwd{M:List MS}{x:TX}{u:Int}{r:gN}(h:bA M x u i gs r):i<=x.l.length->∀j dc,r=some (j,dc)->i<=j/\j<=x.l.length/\dc.length=gs.length:=by
 induction h with
 |done s m i gs h hk=>intro hi j dc e;cases e;exact⟨Aa _,hi,rfl⟩
 |iq s m i gs r h hk ht hn ih=>
  intro hi j dc e;have ar:i<x.l.length:=by simp at ht;exact ht.1
  have:=ih ar j dc e;exact⟨by omega,this.2⟩
 |gE s m i gs h hk ht=>intro hi j dc e;cases e
 |AP s m i gs r h hk he hn ih=>intro hi j dc e;exact ih hi j dc e
 |AO s m i gs h hk he=>intro hi j dc e;cases e
 |mark s m i gs r h hk hn ih=>intro hi j dc e;have:=ih hi j dc e;simpa using this
 |tU s m i gs v h hk hn ih=>intro hi j dc e;exact ih hi j dc e
 |tT s m i gs r h hk hn ho ih uv=>intro hi j dc e;exact uv hi j dc e
theorem afs(w:World)(s:ByteArray)(i:Nat)(hi:i<(aW s).length)(hs:s.size<=10000000)(hT:j9 w):Calls prog 47 #[.string s,.int .i64 (bd s i:Int)] w fun e w'=>e=.returned (.int .i64 ((bd s (i+1):Int)-(bd s i:Int)))/\I aq w w':=by
 refine(afu s (bd s i) w (jK s i) (by omega) hT).mono ?_;rintro e w' ⟨rfl,hk⟩;refine⟨?_,hk⟩;have h1:=zd hi;have h2:=CC hi;have h3:=xR hi;rw[T9 s _ h1];congr 2;omega
theorem akj(gs:List Int)(k:Nat)(v:Int):(iE gs).toArray.setIfInBounds k (.int .i64 v)=(iE (gs.set k v)).toArray:=by
 unfold iE;simp[List.map_set]
structure vY(w wr:World)(g:OG)(gb:Nat)(wf:List Nat)(i u:Nat)(gs:List Int)(res:gN)(N2:Nat):Prop where
 yv:i<=(aW g.s).length
 afo:u<g.ms.length
 jf:bA g.ms (cG g.s) (u:Int) i gs res
 out:∃ae wd,pW wr g ae wf wd/\g.aH.getD ae 0<=i
 bK:ay wr gb (iE gs).toArray 3
 len:gs.length=N2
 kept:I (fun i=>i=g.ob\/i=g.WB) w wr
 box:ay wr w.heap.size #[.int .i64 0,.int .i64 0,.slice none 0 0,.string ⟨#[]⟩] 72
theorem vY.nY(h:vY w wr g gb wf i u gs res N2)(k:I aq wr w'):vY w w' g gb wf i u gs res N2:=by
 obtain⟨ae,wd,o1,o2⟩:=h.out;exact⟨h.yv,h.afo,h.jf,⟨ae,wd,o1.kept k,o2⟩,h.bK.kept k (fun h=>h),h.len,h.kept.trans (k.mono (fun _ h=>h.elim)),h.box.kept k (fun h=>h)⟩
theorem vY.go{i' u':Nat}(h:vY w wr g gb wf i u gs res N2)(hi:i<=i')(aS:i'<=(aW g.s).length)(hu:u'<g.ms.length)(hr:bA g.ms (cG g.s) (u':Int) i' gs res):vY w wr g gb wf i' u' gs res N2:=by
 obtain⟨ae,wd,o1,o2⟩:=h.out;exact⟨aS,hu,hr,⟨ae,wd,o1,by omega⟩,h.bK,h.len,h.kept,h.box⟩
theorem akX{wd:List Nat}(hg:g.Ok)(hO:pW w g ae wf wd){i0 G:Nat}(b_:i0<=(aW g.s).length)(ua:g.aH.getD ae 0<=i0)(cS:g.st=(u0:Int))(Jo:u0<g.ms.length)(hG:g.G=(G:Int))(Ga:G<=100000)(hR:bA g.ms (cG g.s) (u0:Int) i0 (List.replicate (2*G) (-1)) (some (j,qa))):
 Calls prog 48 #[.pointer (some ⟨g.ob,0,none⟩),.int .i64 (bd g.s i0:Int)] w fun e w'=>∃gb,e=.returned (.tuple #[.agg #[.int .i64 (bd g.s i0:Int),.int .i64 (bd g.s j:Int),.slice (some ⟨gb,0,none⟩) (2*G) (2*G),.string (g.s.extract (bd g.s i0) (bd g.s j))],.bool true])/\w.heap.size<=gb/\ay w' gb (iE qa).toArray 3/\∃KZ rl,pW w' g KZ wf rl/\g.aH.getD KZ 0<=j/\I (fun i=>i=g.ob\/i=g.WB) w w':=by
 have HG:=ai hg;have HO:=ai hO;have Fi:=ai ua;have HR:=ai hR;have iU:=ai cS;have HFW:=ai (hR.fwd b_ j qa rfl);have o9:=ai hO.at_.below;have bm:=hg.size;have dg:=hg.cB;have SR:=ai hG;have c2:w.cell? ⟨g.ob,2,none⟩=some (.int .i64 (G:Int)):=by rw[<-hG];exact hO.at_.rk.out.cell 2
 have VO:=hO.at_.rk.out.lt;obtain⟨N2,x_⟩:∃N2,N2=2*G:=⟨_,rfl⟩
 have hmul:2*(G:Int)=(N2:Int):=by omega
 rw[<-x_]at HR⊢;have Fk:=ai x_;have apM:N2<=200000:=by omega
 clear hg hO ua hR cS hG x_;go_in;go_wp2_with fail;have KA:Hid (I aq w ((w.alloc (.cells #[.int .i64 0,.int .i64 0,.slice none 0 0,.string ⟨#[]⟩] 72)).alloc (.cells #[.int .i64 (-1)] 3))):=((I.refl aq w).alloc _).alloc _;have BX:Hid (ay ((w.alloc (.cells #[.int .i64 0,.int .i64 0,.slice none 0 0,.string ⟨#[]⟩] 72)).alloc (.cells #[.int .i64 (-1)] 3)) w.heap.size #[.int .i64 0,.int .i64 0,.slice none 0 0,.string ⟨#[]⟩] 72):=(ay.new w _ _).alloc _
 have cm:((w.alloc (.cells #[.int .i64 0,.int .i64 0,.slice none 0 0,.string ⟨#[]⟩] 72)).alloc (.cells #[.int .i64 (-1)] 3)).cell? ⟨w.heap.size+1,0,none⟩=some (.int .i64 (-1)):=by
  have:=(ay.new (w.alloc (.cells #[.int .i64 0,.int .i64 0,.slice none 0 0,.string ⟨#[]⟩] 72)) #[.int .i64 (-1)] 3).cell 0;rw[cR]at this;exact this
 have QD:((w.alloc (.cells #[.int .i64 0,.int .i64 0,.slice none 0 0,.string ⟨#[]⟩] 72)).alloc (.cells #[.int .i64 (-1)] 3)).heap.size=w.heap.size+1+1:=by simp
 have F:=ai (am_ ((w.alloc (.cells #[.int .i64 0,.int .i64 0,.slice none 0 0,.string ⟨#[]⟩] 72)).alloc (.cells #[.int .i64 (-1)] 3)) (w.heap.size+1) N2 cm (by omega));refine(F.out).mono ?_;rintro e w2 ⟨gb,kj,rfl,fJ,k2⟩;rw[QD]at kj
 have gg:Hid (vY w w2 g gb wf i0 u0 (List.replicate N2 (-1)) (some (j,qa)) N2):=by
  have k:I aq w w2:=KA.out.trans k2;refine⟨b_,Jo,HR.out,⟨ae,wd,HO.out.kept k,Fi.out⟩,?_,by simp,k.mono (fun _ h=>h.elim),BX.out.kept k2 (fun h=>h)⟩;have e:iE (List.replicate N2 (-1))=List.replicate N2 (.int .i64 (-1)):=by unfold iE;simp
  rw[e];exact fJ
 have O2:=ai (HO.out.kept (KA.out.trans k2));have e4:w2.cell? ⟨g.ob,4,none⟩=some (.int .i64 0):=O2.out.at_.rk.out.cell 4;have e3:w2.cell? ⟨g.ob,3,none⟩=some (.string g.s):=O2.out.at_.rk.out.cell 3;have e1:w2.cell? ⟨g.ob,1,none⟩=some (.int .i64 (u0:Int)):=by rw[<-iU.out];exact O2.out.at_.rk.out.cell 1
 clear fJ k2 F cm KA BX QD c2 HO O2 HR Fi;go_wp2_with fail;go_big_quiet (fail);have e1':(w2.drewN nq).cell? ⟨g.ob,1,none⟩=some (.int .i64 (u0:Int)):=e1;have ZG:=ai (gg.out.nY ((I.refl aq w2).drewN nq));generalize w2.drewN nq=w3 at*;clear gg e1 e3 e4;go_wp2_with fail;go_big_quiet (fail);have ZH:=ai (ZG.out.nY ((I.refl aq w3).drewN nq));generalize w3.drewN nq=w4 at*;clear ZG e1';go_wp2_with fail;go_loopg [9,10] (((aW g.s).length-i0)*(g.ms.length+1)+u0) (fun kk v9 v10 wr=>∃(i u:Nat) (gs:List Int),v9=.int .i64 (bd g.s i:Int)/\v10=.int .i64 (u:Int)/\kk=((aW g.s).length-i)*(g.ms.length+1)+u/\Hid (vY w wr g gb wf i u gs (some (j,qa)) N2))
 case atStart=>exact⟨i0,u0,_,rfl,rfl,rfl,ZH⟩
 case round=>
  obtain⟨i,u,gs,rfl,rfl,gH,HM⟩:=hrel;clear ZH;have hu:=HM.out.afo;have hi:=HM.out.yv;obtain⟨agG,wd1,o1,o2⟩:=HM.out.out;have O1:=ai o1;have nz:=ai o2;have e7:wr.cell? ⟨g.ob,7,none⟩=some (.bool false):=o1.at_.rk.out.cell 7;have e0:wr.cell? ⟨g.ob,0,none⟩=some (.slice (some ⟨g.mb,0,none⟩) g.ms.length g.c):=o1.at_.rk.out.cell 0;obtain⟨q,⟨GL,GJ⟩,VR,Mz⟩:=o1.at_.rk.qZ.at hu;obtain⟨d0,d1,d2,d3,d4,d5⟩:=Mz wr o1.at_.rk.qZ;have pw:=o1.at_.rk.Hr u GL hu;rw[GJ]at pw;have Fs:=ai (HM.out.jf.aV rfl (Ab hu));have uO:=ai (HG.out.LB u _ (Ab hu));have yX:=ai (HG.out.q _ (Ay hu));generalize hm:g.ms[u]=m at*;have ek:=pw.k;have esl:=pw.sl;have Lp:=pw.nx;have Lq:=pw.ot;clear hm Mz GJ GL VR pw o1 o2;obtain⟨qk,cM,cO,cN,cq,fF,JP,JQ⟩:=q;simp only at d0 d1 d2 d3 d4 d5 ek esl Lp Lq;subst ek esl Lp Lq;have apT:=jK g.s i
  have ab6:∀(i' u':Nat),u'<g.ms.length->(i<i'/\i'<=(aW g.s).length\/i'=i/\u'<u)->((aW g.s).length-i')*(g.ms.length+1)+u'<((aW g.s).length-i)*(g.ms.length+1)+u:=by
   intro i' u' h1 h2;rcases h2 with⟨h2,h3⟩|⟨rfl,h2⟩
   ·have:=Bb (g.ms.length+1) (show(aW g.s).length-i'+1<=(aW g.s).length-i by omega);rw[Ci]at this;omega
   ·omega
  have Kt:=ai ab6;have Kr:=ai gH;clear ab6 gH;rcases Fs.out with⟨k0,er⟩|⟨k1,ht,hn⟩|⟨k1,ht,er⟩|⟨k2,he,hn⟩|⟨k2,he,er⟩|⟨k3,hn⟩|⟨k4,v,ev,hn⟩|⟨k4,hn,ho⟩
  ·obtain⟨rfl,rfl⟩:j=i/\qa=gs:=by cases er;exact⟨rfl,rfl⟩
   rw[k0]at d0;have jk:=HFW.out;have aqq:=rD g.s jk.1;obtain⟨mn,iy⟩:∃mn,m.next=mn:=⟨_,rfl⟩
   have F:=(ai fun(W:World)=>ant (g.s.extract (bd g.s i0) (bd g.s j)) W (by rw[extract_size g.s _ _ (jK g.s j)];omega));clear jk Fs uO yX er;go_wp2_with fail;refine(F.out _).mono ?_;rintro e w5 ⟨rfl,k5⟩;have bx:=HM.out.box.kept k5 (fun h=>h);have x0:w5.cell? ⟨w.heap.size,0,none⟩=some (.int .i64 0):=bx.cell 0;have x1:w5.cell? ⟨w.heap.size,1,none⟩=some (.int .i64 0):=bx.cell 1;have x2:w5.cell? ⟨w.heap.size,2,none⟩=some (.slice none 0 0):=bx.cell 2;have x3:w5.cell? ⟨w.heap.size,3,none⟩=some (.string ⟨#[]⟩):=bx.cell 3;have y0:=bx.frozen 0;have y1:=bx.frozen 1;have y2:=bx.frozen 2;have y3:=bx.frozen 3;have BXX:=ai bx;have M5:=ai (HM.out.nY k5);clear k5 bx F;go_wp2_with fail
   have B6:Hid (ay ((((w5.setCell ⟨w.heap.size,0,none⟩ (.int .i64 (bd g.s i0:Int))).setCell ⟨w.heap.size,1,none⟩ (.int .i64 (bd g.s j:Int))).setCell ⟨w.heap.size,2,none⟩ (.slice (some ⟨gb,0,none⟩) N2 N2)).setCell ⟨w.heap.size,3,none⟩ (.string (g.s.extract (bd g.s i0) (bd g.s j)))) w.heap.size #[.int .i64 (bd g.s i0:Int),.int .i64 (bd g.s j:Int),.slice (some ⟨gb,0,none⟩) N2 N2,.string (g.s.extract (bd g.s i0) (bd g.s j))] 72):=by
    have:=(((BXX.out.setCell 0 (.int .i64 (bd g.s i0:Int))).setCell 1 (.int .i64 (bd g.s j:Int))).setCell 2 (.slice (some ⟨gb,0,none⟩) N2 N2)).setCell 3 (.string (g.s.extract (bd g.s i0) (bd g.s j)));show ay _ _ _ _
    simpa using this
   have K6:Hid (I (fun i=>i=w.heap.size) w5 ((((w5.setCell ⟨w.heap.size,0,none⟩ (.int .i64 (bd g.s i0:Int))).setCell ⟨w.heap.size,1,none⟩ (.int .i64 (bd g.s j:Int))).setCell ⟨w.heap.size,2,none⟩ (.slice (some ⟨gb,0,none⟩) N2 N2)).setCell ⟨w.heap.size,3,none⟩ (.string (g.s.extract (bd g.s i0) (bd g.s j))))):=((((I.refl (fun i=>i=w.heap.size) w5).setCell (p:=⟨w.heap.size,0,none⟩) (Or.inl rfl) _).setCell (p:=⟨w.heap.size,1,none⟩) (Or.inl rfl) _).setCell (p:=⟨w.heap.size,2,none⟩) (Or.inl rfl) _).setCell (p:=⟨w.heap.size,3,none⟩) (Or.inl rfl) _;generalize((((w5.setCell ⟨w.heap.size,0,none⟩ (.int .i64 (bd g.s i0:Int))).setCell ⟨w.heap.size,1,none⟩ (.int .i64 (bd g.s j:Int))).setCell ⟨w.heap.size,2,none⟩ (.slice (some ⟨gb,0,none⟩) N2 N2)).setCell ⟨w.heap.size,3,none⟩ (.string (g.s.extract (bd g.s i0) (bd g.s j))))=w6 at*;have z0:w6.cell? ⟨w.heap.size,0,none⟩=some (.int .i64 (bd g.s i0:Int)):=B6.out.cell 0;have z1:w6.cell? ⟨w.heap.size,1,none⟩=some (.int .i64 (bd g.s j:Int)):=B6.out.cell 1;have z2:w6.cell? ⟨w.heap.size,2,none⟩=some (.slice (some ⟨gb,0,none⟩) N2 N2):=B6.out.cell 2;have z3:w6.cell? ⟨w.heap.size,3,none⟩=some (.string (g.s.extract (bd g.s i0) (bd g.s j))):=B6.out.cell 3;refine Ct (v:=.tuple #[.agg #[.int .i64 (bd g.s i0:Int),.int .i64 (bd g.s j:Int),.slice (some ⟨gb,0,none⟩) N2 N2,.string (g.s.extract (bd g.s i0) (bd g.s j))],.bool true]) ?_ rfl ?_
   ·rw[results_cell_tmp rfl];simp only[Array.getD_eq_getD_getElem?,List.getElem?_toArray,List.getElem?_cons_succ,List.getElem?_cons_zero,D2];go_simp
   ·obtain⟨ze,AW,o5,eY⟩:=M5.out.out;exact⟨gb,rfl,by omega,M5.out.bK.kept K6.out (by omega),ze,AW,o5.zk o9.out (K6.out.mono (fun i h=>by subst h;exact Aa _)),eY,M5.out.kept.bY K6.out (fun i hi e=>by omega)⟩
  ·rw[k1]at d0;have hN:=uO.out.2.1 k1;obtain⟨mn,iy⟩:∃mn:Nat,m.next=(mn:Int):=⟨m.next.toNat,by omega⟩
   rw[iy]at d4 hn
   have lx:i<(aW g.s).length:=by
    have:(decide (i<(cG g.s).l.length)&&mM m.sp m.fo m.nt ((cG g.s).dd i))=true:=ht;simp at this;exact this.1
   have GD:mn<g.ms.length:=(by omega);have F:=afs wr g.s i lx bm O1.out.at_.rk.vR;obtain⟨qv,yu⟩:∃qv,qv=(bd g.s (i+1):Int)-(bd g.s i:Int):=⟨_,rfl⟩
   rw[<-yu]at F;have IT:(bd g.s i:Int)+qv=(bd g.s (i+1):Int):=(by omega);have ai0:=jK g.s (i+1);have HN:=ai hn;have F:=ai F;clear hn ht Fs uO yX iy hN yu;go_wp2_with fail;refine(F.out).mono ?_;rintro e w5 ⟨rfl,k5⟩;have aO:=ai ((HM.out.nY k5).go (i':=i+1) (u':=mn) (by omega) lx GD HN.out);clear k5 F;go_wp2_with fail;go_roundg (((aW g.s).length-(i+1))*(g.ms.length+1)+mn)
   case measure=>exact Dx (Kt.out _ _ GD (Or.inl ⟨by omega,lx⟩)) Kr.out.symm
   case rel=>exact⟨i+1,mn,gs,rfl,rfl,rfl,aO⟩
  ·cases er
  ·rw[k2]at d0;have hN:=uO.out.2.2.1 (by omega);obtain⟨mn,iy⟩:∃mn:Nat,m.next=(mn:Int):=⟨m.next.toNat,by omega⟩
   rw[iy]at d4 hn;have I_:mn<u:=(by omega);have aO:=ai (HM.out.go (i':=i) (u':=mn) (Aa _) hi (by omega) hn);clear hn he Fs uO yX iy hN;go_wp2_with fail;go_roundg (((aW g.s).length-(i))*(g.ms.length+1)+mn)
   case measure=>exact Dx (Kt.out _ _ (by omega) (Or.inr ⟨rfl,I_⟩)) Kr.out.symm
   case rel=>exact⟨i,mn,gs,rfl,rfl,rfl,aO⟩
  ·cases er
  ·rw[k3]at d0;have hN:=uO.out.2.2.1 (by omega);have hSl:=yX.out.2.1 k3;obtain⟨mn,iy⟩:∃mn:Nat,m.next=(mn:Int):=⟨m.next.toNat,by omega⟩
   obtain⟨sl,lX⟩:∃sl:Nat,m.slot=(sl:Int):=⟨m.slot.toNat,by omega⟩
   rw[iy]at d4 hn;rw[lX]at d3 hn;have I_:mn<u:=(by omega);have aqI:sl<N2:=by have:=Fk.out;have:=SR.out;omega
   have dA:=HM.out.len;have fgb:=HM.out.bK.frozen sl
   have cgb:wr.cell? ⟨gb,sl,none⟩=some (.int .i64 (gs.getD sl 0)):=by
    have:=HM.out.bK.cell sl;rw[this];unfold iE;simp[Ae,Ab (show sl<gs.length by omega)]
   have aO:Hid (vY w (wr.setCell ⟨gb,sl,none⟩ (.int .i64 (bd g.s i:Int))) g gb wf i mn (gs.set sl (bd g.s i)) (some (j,qa)) N2):=by
    have k:I (fun i=>i=gb) wr (wr.setCell ⟨gb,sl,none⟩ (.int .i64 (bd g.s i:Int))):=(I.refl (fun i=>i=gb) wr).setCell (p:=⟨gb,sl,none⟩) (Or.inl rfl) _;have km:=HM.out.bK.setCell sl (.int .i64 (bd g.s i:Int));rw[akj]at km;refine⟨hi,by omega,?_,⟨agG,wd1,O1.out.zk o9.out (k.mono (fun i h=>by subst h;omega)),nz.out⟩,km,by rw[Bw];exact dA,HM.out.kept.bY k (fun i hi e=>by omega),HM.out.box.kept k (by omega)⟩;have:=hn;rw[Ip]at this;simpa using this
   clear hn Fs uO yX iy lX hN hSl dA;go_wp2_with fail;go_roundg (((aW g.s).length-(i))*(g.ms.length+1)+mn)
   case measure=>exact Dx (Kt.out _ _ (by omega) (Or.inr ⟨rfl,I_⟩)) Kr.out.symm
   case rel=>exact⟨i,mn,gs.set sl (bd g.s i),rfl,rfl,rfl,aO⟩
  ·rw[k4]at d0;have hN:=uO.out.2.2.1 (by omega);obtain⟨mn,iy⟩:∃mn:Nat,m.next=(mn:Int):=⟨m.next.toNat,by omega⟩
   rw[iy]at d4 hn;have I_:mn<u:=(by omega);have F:=T4 HG.out O1.out (u:=mn) (by omega) hi nz.out;rw[Rv hn]at F;have F:=ai F;rw[<-ev]at hn;have HN:=ai hn;clear hn ev Fs uO yX iy hN;go_wp2_with fail;refine(F.out).mono ?_;rintro e w5 ⟨rfl,ze,AW,o5,eY,k5⟩;have aO:Hid (vY w w5 g gb wf i mn gs (some (j,qa)) N2):=⟨hi,by omega,HN.out,⟨ze,AW,o5,eY⟩,HM.out.bK.kept k5 (by have:=o9.out;unfold OG.below at this;omega),HM.out.len,HM.out.kept.trans k5,HM.out.box.kept k5 (by have:=o9.out;unfold OG.below at this;omega)⟩;clear o5 eY k5 F;go_wp2_with fail;go_roundg (((aW g.s).length-(i))*(g.ms.length+1)+mn)
   case measure=>exact Dx (Kt.out _ _ (by omega) (Or.inr ⟨rfl,I_⟩)) Kr.out.symm
   case rel=>exact⟨i,mn,gs,rfl,rfl,rfl,aO⟩
  ·rw[k4]at d0;have hN:=uO.out.2.2.1 (by omega);have aiP:=uO.out.2.2.2 k4;obtain⟨mn,iy⟩:∃mn:Nat,m.next=(mn:Int):=⟨m.next.toNat,by omega⟩
   obtain⟨mo,eZ⟩:∃mo:Nat,m.ch=(mo:Int):=⟨m.ch.toNat,by omega⟩
   rw[iy]at d4 hn;rw[eZ]at d5 ho;have I_:mn<u:=(by omega);have aju:mo<u:=(by omega);have F:=T4 HG.out O1.out (u:=mn) (by omega) hi nz.out;rw[Xa hn]at F;have F:=ai F;have HN:=ai ho;clear hn ho Fs uO yX iy eZ hN aiP;go_wp2_with fail;refine(F.out).mono ?_;rintro e w5 ⟨rfl,ze,AW,o5,eY,k5⟩;have aO:Hid (vY w w5 g gb wf i mo gs (some (j,qa)) N2):=⟨hi,by omega,HN.out,⟨ze,AW,o5,eY⟩,HM.out.bK.kept k5 (by have:=o9.out;unfold OG.below at this;omega),HM.out.len,HM.out.kept.trans k5,HM.out.box.kept k5 (by have:=o9.out;unfold OG.below at this;omega)⟩;have g5:w5.cell? ⟨g.mb,u*6+5,none⟩=some (.int .i64 (mo:Int)):=(k5.cell (p:=⟨g.mb,u*6+5,none⟩) O1.out.at_.rk.qZ.lt (by have h1:=HG.out.Il.1;have h2:=HG.out.KP.2.1;show¬(g.mb=g.ob\/g.mb=g.WB);omega)).trans d5;clear o5 eY k5 F;go_wp2_with fail;go_roundg (((aW g.s).length-(i))*(g.ms.length+1)+mo)
   case measure=>exact Dx (Kt.out _ _ (by omega) (Or.inr ⟨rfl,aju⟩)) Kr.out.symm
   case rel=>exact⟨i,mo,gs,rfl,rfl,rfl,aO⟩
def nM(s:ByteArray)(i:Nat):Nat:=if i<=(aW s).length then bd s i else s.size+1
theorem IC(h:i<=(aW s).length):nM s i=bd s i:=if_pos h
theorem Uz(h:(aW s).length<i):nM s i=s.size+1:=if_neg (by omega)
theorem abn(h:i<=(aW s).length):bd s i<nM s (i+1)/\nM s (i+1)<=bd s i+4:=by
 by_cases hl:i<(aW s).length
 ·rw[IC (by omega)];exact xR hl
 ·rw[Uz (by omega)];have:=sI (s:=s) (i:=i) (by omega);omega
theorem aft(w:World)(s:ByteArray)(i:Nat)(hi:i<=(aW s).length)(hs:s.size<=10000000)(hT:j9 w):Calls prog 47 #[.string s,.int .i64 (bd s i:Int)] w fun e w'=>e=.returned (.int .i64 ((nM s (i+1):Int)-(bd s i:Int)))/\I aq w w':=by
 by_cases hl:i<(aW s).length
 ·rw[IC (by omega)];exact afs w s i hl hs hT
 ·refine(afu s (bd s i) w (jK s i) (by omega) hT).mono ?_;rintro e w' ⟨rfl,hk⟩;refine⟨?_,hk⟩;have hb:=sI (s:=s) (i:=i) (by omega);rw[Uz (by omega),hb]
  have e0:(s.extract s.size s.size)=ByteArray.empty:=by
   apply ByteArray.ext
   simp
  rw[e0];have e1:(Lib.decodeGo ByteArray.empty).2=0:=by kernel_rfl
  rw[e1];congr 2;omega
def CM(s:ByteArray)(N2:Nat)(e:Ev)(gb:Nat):List Value:=[.int .i64 (bd s e.a:Int),.int .i64 (bd s e.b:Int),.slice (some ⟨gb,0,none⟩) N2 N2,.string (s.extract (bd s e.a) (bd s e.b))]
def Iy(s:ByteArray)(N2:Nat)(l:List (Ev×Nat)):List Value:=l.flatMap fun p=>CM s N2 p.1 p.2
structure nu(w:World)(base:Nat)(v:Value)(s:ByteArray)(N2:Nat)(l:List (Ev×Nat)):Prop where
 row:w.ownsRow base 72 4 v l.length (Iy s N2 l)
 bK:∀p∈l,base<=p.2/\ay w p.2 (iE p.1.gs).toArray 3
theorem nu.nil(w:World)(base:Nat)(s:ByteArray)(N2:Nat):nu w base (.slice none 0 0) s N2 []:=⟨At _ _ _ _,fun p h=>by cases h⟩
theorem nu.kept{K:Nat->Prop}(h:nu w base v s N2 l)(k:I K w w')(hK:∀i,base<=i->¬K i):nu w' base v s N2 l:=
 ⟨dh h.row k (fun b hb=>hK b (cA h.row hb).1),fun p hp=>⟨(h.bK p hp).1,(h.bK p hp).2.kept k (hK _ (h.bK p hp).1)⟩⟩
theorem ah8(s:ByteArray)(N2:Nat)(l:List (Ev×Nat))(p:Ev×Nat):Iy s N2 (l++[p])=Iy s N2 l++CM s N2 p.1 p.2:=by unfold Iy;simp
theorem nu.adr(h:nu w base v s N2 l){cs:Array Value}(hb:ay w b cs 3):v.ownBlock≠some b:=fun e=>by
 rcases h.row.2 with⟨rfl,_⟩|⟨g,cap,aU,rfl,a1,a2,r⟩
 ·simp[Value.ownBlock]at e
 ·simp[Value.ownBlock]at e
  subst e;unfold ay at hb;rw[a2]at hb;simp at hb
theorem nu.push(h:nu w base v s N2 l)(k0:I aq w W)(hp:base<=p.2/\ay w p.2 (iE p.1.gs).toArray 3)
 (a8:w7.ownsRow base 72 4 v' (l.length+1) (Iy s N2 l++CM s N2 p.1 p.2))(hg:W.grownBy w7 v.ownBlock):nu w7 base v' s N2 (l++[p])/\I (fun i=>base<=i) w w7:=by
 have k7:I (fun j=>v.ownBlock=some j) w w7:=(k0.mono (fun i hx=>hx.elim)).dn hg (fun j hj=>Or.inl hj);refine⟨⟨by rw[Ao,ah8];exact a8,fun q hq=>?_⟩,k7.mono (fun i hi=>(cA h.row hi).1)⟩;rcases A2.1 hq with hq|hq
 ·exact⟨(h.bK q hq).1,(h.bK q hq).2.kept k7 (h.adr (h.bK q hq).2)⟩
 ·simp at hq
  subst hq;exact⟨hp.1,hp.2.kept k7 (h.adr hp.2)⟩
def J2(s:ByteArray)(told:Option Nat):Int:=match told with
 |none=> -1
 |some k=>(bd s k:Int)
structure qw(w wr:World)(g:OG)(base cZ:Nat)(wf:List Nat)(N2 io:Nat)(v:Value)(l:List (Ev×Nat)):Prop where
 out:∃ae wd,pW wr g ae wf wd/\g.aH.getD ae 0<=io
 lu:nu wr base v g.s N2 l
 kept:I (fun i=>i=g.ob\/i=g.WB\/i=cZ) w wr
structure yU(w wr:World)(g:OG)(base cZ:Nat)(wf:List Nat)(T:Nat->gN)(N2:Nat)(i:Nat)(told:Option Nat)(v:Value)(l:List (Ev×Nat)):Prop where
 yv:i<=(aW g.s).length+1
 Sl:∀k,told=some k->k<=(aW g.s).length
 pt:qw w wr g base cZ wf N2 i v l
 Iu:ay wr cZ #[.int .i64 (nM g.s i:Int),.int .i64 (J2 g.s told)] 84
 rest:l.map (·.1)++gT T (aW g.s).length i told=gT T (aW g.s).length 0 none
 cB:l.length<=i
theorem Tryz.acM:(prog.info? 72).map (fun i=>(i.zero,i.size,i.bytes))=some (some (.agg #[.int .i64 0,.int .i64 0,.slice none 0 0,.string ⟨#[]⟩]),4,56):=by kernel_rfl
def YB(jJ b4:Nat)(x y:Int)(s:ByteArray)(W:World):Prop:=(W.cell? ⟨jJ,0,none⟩=some (.int .i64 x)/\W.cell? ⟨jJ,1,none⟩=some (.int .i64 y))/\W.cell? ⟨b4,0,none⟩=some (.string s)/\W.cell? ⟨b4,1,none⟩=some (.int .i64 0)
def YA(cZ b4:Nat)(f:Int)(s:ByteArray)(W:World):Prop:=W.cell? ⟨cZ,0,none⟩=some (.int .i64 f)/\W.cell? ⟨b4,0,none⟩=some (.string s)
theorem iv.one{B:Nat}{wr:List Nat}(h:iv w g ae wf wr)(k:I (fun i=>i=B) w w')(h1:B≠g.ob/\B≠g.mb/\¬(g.lo<=B/\B<g.hi))(h2:B≠0/\B≠1)(h3:B≠g.da/\B≠g.fh/\B≠g.rh)(h4:B≠g.FB/\B≠g.WB):iv w' g ae wf wr where
 rk:=h.rk.kept k (fun e=>h1.1 e.symm) (fun e=>h1.2.1 e.symm) (fun i a b e=>h1.2.2 (by subst e;exact⟨a,b⟩)) (fun e=>h2.1 e.symm) (fun e=>h2.2 e.symm)
 bg i hi:=(k.cell (p:=⟨g.da,i,none⟩) h.lt.1 (fun e=>h3.1 e.symm)).trans (h.bg i hi)
 fh i hi:=(k.cell (p:=⟨g.fh,i,none⟩) h.lt.2.1 (fun e=>h3.2.1 e.symm)).trans (h.fh i hi)
 rh i hi:=(k.cell (p:=⟨g.rh,i,none⟩) h.lt.2.2 (fun e=>h3.2.2 e.symm)).trans (h.rh i hi)
 lt:=by have:=k.size;have:=h.lt;omega
 bf:=h.bf.kept k (fun e=>h4.1 e.symm)
 bw:=h.bw.kept k (fun e=>h4.2 e.symm)
 fl:=h.fl
 wl:=h.wl
theorem aoA(hj:j<=(aW s).length)(ht:∀k,told=some k->k<=(aW s).length):((bd s j:Int)==J2 s told)=decide (told=some j):=by
 cases told with
 |none=>simp[J2]
 |some k=>
  have hk:=ht k rfl;simp only[J2,Cf];rw[Av];simp only[Ai,B7];constructor
  ·intro h;exact(O8 hj hk (by omega)).symm
  ·intro h;rw[h]
theorem qw.nY(h:qw w wr g base cZ wf N2 io v l)(k:I aq wr w'):qw w w' g base cZ wf N2 io v l:=by
 obtain⟨ae,wd,o1,o2⟩:=h.out;exact⟨⟨ae,wd,o1.kept k,o2⟩,h.lu.kept k (fun _ _ h=>h),h.kept.trans (k.mono (fun _ h=>h.elim))⟩
theorem yU.nY(h:yU w wr g base cZ wf T N2 i told v l)(k:I aq wr w'):yU w w' g base cZ wf T N2 i told v l:=
 ⟨h.yv,h.Sl,h.pt.nY k,h.Iu.kept k (fun h=>h),h.rest,h.cB⟩
theorem qw.Xd(h:qw w wr g base cZ wf N2 io v l)(k:I (fun i=>i=g.ob\/i=g.WB) wr w')(hb:g.below base)(ho:∃ae wd,pW w' g ae wf wd/\g.aH.getD ae 0<=MN):qw w w' g base cZ wf N2 MN v l:=by
 refine⟨ho,h.lu.kept k (fun i hi e=>?_),h.kept.trans (k.mono (fun i e=>by rcases e with e|e;exact Or.inl e;exact Or.inr (Or.inl e)))⟩;unfold OG.below at hb;omega
theorem qw.one(h:qw w wr g base cZ wf N2 io v l)(k:I (fun i=>i=cZ) wr w')(IY:(cZ≠g.ob/\cZ≠g.mb/\¬(g.lo<=cZ/\cZ<g.hi))/\(cZ≠g.da/\cZ≠g.fh/\cZ≠g.rh)/\cZ≠g.FB/\cZ≠g.WB)(aM:cZ≠0/\cZ≠1)(LY:cZ<base):qw w w' g base cZ wf N2 io v l:=by
 obtain⟨ae,wd,o1,o2⟩:=h.out;exact⟨⟨ae,wd,⟨o1.at_.one k IY.1 aM IY.2.1 IY.2.2,o1.lt,o1.Lu,o1.rows⟩,o2⟩,h.lu.kept k (fun i hi e=>by omega),h.kept.trans (k.mono (fun i e=>Or.inr (Or.inr e)))⟩
theorem qw.later(h:qw w wr g base cZ wf N2 io v l)(hi:io<=MN):qw w wr g base cZ wf N2 MN v l:=by
 obtain⟨ae,wd,o1,o2⟩:=h.out;exact⟨⟨ae,wd,o1,by omega⟩,h.lu,h.kept⟩
theorem qw.push(h:qw w wr g base cZ wf N2 io v l)(hb:g.below base)(hw:base=w.heap.size)(k0:I aq wr W)(hp:base<=p.2/\ay wr p.2 (iE p.1.gs).toArray 3)
 (a8:w7.ownsRow base 72 4 v' (l.length+1) (Iy g.s N2 l++CM g.s N2 p.1 p.2))(hg:W.grownBy w7 v.ownBlock):qw w w7 g base cZ wf N2 io v' (l++[p])/\I (fun i=>base<=i) wr w7:=by
 obtain⟨e1,k1⟩:=h.lu.push k0 hp a8 hg;obtain⟨ae,wd,o1,o2⟩:=h.out;exact⟨⟨⟨ae,wd,o1.zk hb k1,o2⟩,e1,h.kept.bY k1 (fun i hi e=>by omega)⟩,k1⟩
theorem amp(sX:BC T (aW g.s).length)(hi:i<=(aW g.s).length)(hj:j<=(aW g.s).length)(mx:i<=j)(hT:T i=some (j,qa))(ht:∀k,told=some k->k<=(aW g.s).length){qv:Int}(hw:(bd g.s j:Int)+qv=(nM g.s (j+1):Int)):
 ∃(rb:Bool) (i':Nat),(!(((bd g.s i:Int)==(bd g.s j:Int))&&((bd g.s j:Int)==J2 g.s told)))=rb/\(if(bd g.s i:Int)=(bd g.s j:Int)then(bd g.s j:Int)+qv else(bd g.s j:Int))=(nM g.s i':Int)/\(i<i'/\i'<=(aW g.s).length+1/\j<=i')/\(rb=true->gT T (aW g.s).length i told=⟨i,j,qa⟩::gT T (aW g.s).length i' (some j))/\(rb=false->gT T (aW g.s).length i told=gT T (aW g.s).length i' (some j)):=by
 have Gl:=aa5 sX hi hT (told:=told);by_cases e:i=j
 ·subst e;rw[if_pos rfl]at Gl;rw[aoA hj ht];by_cases e2:told=some i
  ·rw[if_pos e2]at Gl;refine⟨false,i+1,by simp[e2],by rw[if_pos rfl];exact hw,by omega,fun h=>(by cases h),fun _=>by rw[Gl,e2]⟩
  ·rw[if_neg e2]at Gl;exact⟨true,i+1,by simp[e2],by rw[if_pos rfl];exact hw,by omega,fun _=>Gl,fun h=>(by cases h)⟩
 ·rw[if_neg e]at Gl;have aF:(bd g.s i:Int)≠(bd g.s j:Int):=fun h=>e (O8 hi hj (by omega))
  have hb:((bd g.s i:Int)==(bd g.s j:Int))=false:=by simpa using aF
  refine⟨true,j,by rw[hb];rfl,by rw[if_neg aF,IC hj],by omega,fun _=>Gl,fun h=>(by cases h)⟩
theorem afK(hM:Fu w lo hi mb c vs ms)(qg:uR ms)(hq:jH (G2:Int) ms)(dg:ms.length<=4001)(hs:s.size<=10000000)(Jo:u0<ms.length)(Ga:G2<=100000)
 (hT:∀i,i<=(aW s).length->bA ms (cG s) (u0:Int) i (List.replicate (2*G2) (-1)) (T i))(sX:BC T (aW s).length)(hc:ay w cZ #[.int .i64 0,.int .i64 (-1)] 84)(LY:cZ≠mb/\¬(lo<=cZ/\cZ<hi)/\cZ≠0/\cZ≠1):
 Calls prog 28 #[.agg #[.slice (some ⟨mb,0,none⟩) ms.length c,.int .i64 (u0:Int),.int .i64 (G2:Int)],.agg #[.string s,.int .i64 0,.int .i32 (-1),.int .i32 (-1),.bool false],.pointer (some ⟨cZ,0,none⟩)] w fun e w'=>∃(v:Value) (l:List (Ev×Nat)),e=.returned v/\nu w' w.heap.size v s (2*G2) l/\l.map (·.1)=gT T (aW s).length 0 none/\I (fun i=>i=cZ) w w':=by
 have HM:=ai hM;have Oq:=ai qg;have HQ:=ai hq;have HT:=ai hT;have H4:=ai sX;have HC:=ai hc;have gU:=hc.lt;obtain⟨ie,uf,QH,QE,P6⟩:=A7 Tryz.acM;clear hM qg hq hT sX hc;go_in;go_wp2_with fail;have B3:Hid (ay ((w.alloc (.cells #[.slice (some ⟨mb,0,none⟩) ms.length c,.int .i64 (u0:Int),.int .i64 (G2:Int)] 52)).alloc (.cells #[.string s,.int .i64 0,.int .i32 (-1),.int .i32 (-1),.bool false] 88)) w.heap.size #[.slice (some ⟨mb,0,none⟩) ms.length c,.int .i64 (u0:Int),.int .i64 (G2:Int)] 52):=(ay.new w _ _).alloc _
 have B4:Hid (ay ((w.alloc (.cells #[.slice (some ⟨mb,0,none⟩) ms.length c,.int .i64 (u0:Int),.int .i64 (G2:Int)] 52)).alloc (.cells #[.string s,.int .i64 0,.int .i32 (-1),.int .i32 (-1),.bool false] 88)) (w.heap.size+1) #[.string s,.int .i64 0,.int .i32 (-1),.int .i32 (-1),.bool false] 88):=by
  have:=ay.new (w.alloc (.cells #[.slice (some ⟨mb,0,none⟩) ms.length c,.int .i64 (u0:Int),.int .i64 (G2:Int)] 52)) #[.string s,.int .i64 0,.int .i32 (-1),.int .i32 (-1),.bool false] 88;rw[cR]at this;exact this
 have K1:Hid (I aq w ((w.alloc (.cells #[.slice (some ⟨mb,0,none⟩) ms.length c,.int .i64 (u0:Int),.int .i64 (G2:Int)] 52)).alloc (.cells #[.string s,.int .i64 0,.int .i32 (-1),.int .i32 (-1),.bool false] 88))):=((I.refl aq w).alloc _).alloc _;have ew:((w.alloc (.cells #[.slice (some ⟨mb,0,none⟩) ms.length c,.int .i64 (u0:Int),.int .i64 (G2:Int)] 52)).alloc (.cells #[.string s,.int .i64 0,.int .i32 (-1),.int .i32 (-1),.bool false] 88)).heap.size=w.heap.size+1+1:=by simp
 generalize((w.alloc (.cells #[.slice (some ⟨mb,0,none⟩) ms.length c,.int .i64 (u0:Int),.int .i64 (G2:Int)] 52)).alloc (.cells #[.string s,.int .i64 0,.int .i32 (-1),.int .i32 (-1),.bool false] 88))=w1 at*
 have F:=ai (alj (st:=(u0:Int)) (G:=(G2:Int)) (HM.out.kept K1.out) Oq.out HQ.out dg hs);refine(F.out).mono ?_;rintro e w2 ⟨g,wf,wd,rfl,vl,C_,hO,k2⟩
 have gg:Hid (yU w2 w2 g w2.heap.size cZ wf T (2*G2) 0 none (.slice none 0 0) []):=by
  have hk:=K1.out.trans k2;refine⟨Aw _,fun k h=>(by cases h),⟨⟨0,wd,hO,by rw[C_.bg.zero];exact Aa _⟩,nu.nil _ _ _ _,I.refl _ _⟩,?_,rfl,Aa _⟩;have:=HC.out.kept hk (fun h=>h);rw[IC (Aw _),Io];exact this
 have pT:=ai vl;have qy:=ai C_;have Oj:=ai hO.at_.below;have B32:=ai (B3.out.kept k2 (fun h=>h));have B42:=ai (B4.out.kept k2 (fun h=>h));have K2:=ai (K1.out.trans k2);have aco:=k2.size;have egs:g.s=s:=vl.2.1;have egm:g.ms=ms:=vl.1;have iU:Hid (g.st=(u0:Int)):=vl.2.2.1;have SR:Hid (g.G=(G2:Int)):=vl.2.2.2.1;have ap6:w.heap.size+1+1<=g.ob/\w.heap.size+1+1<=g.WB:=by rw[<-ew];exact⟨vl.2.2.2.2.2.2.2.1,vl.2.2.2.2.2.2.2.2.1⟩
 have Km:Hid ((cZ≠g.ob/\cZ≠g.mb/\¬(g.lo<=cZ/\cZ<g.hi))/\(cZ≠g.da/\cZ≠g.fh/\cZ≠g.rh)/\cZ≠g.FB/\cZ≠g.WB):=by
  obtain⟨e1,e2,e3,e4,e5,e6,e7,e8,e9,xX,u2,CH,Iv,Iw,Ix⟩:=vl;rw[e5,xX,u2];exact⟨⟨by omega,LY.1,LY.2.1⟩,⟨by omega,by omega,by omega⟩,by omega,by omega⟩
 clear vl C_ hO k2 F B3 B4;subst egs egm;go_wp2_with fail;go_loopg [7] ((aW g.s).length+1) (fun kk v wr=>∃(i:Nat) (told:Option Nat) (l:List (Ev×Nat)),kk=(aW g.s).length+1-i/\Hid (yU w2 wr g w2.heap.size cZ wf T (2*G2) i told v l))
 case atStart=>exact⟨0,none,[],rfl,gg⟩
 case round=>
  obtain⟨i,told,l,gH,HI⟩:=hrel;clear gg;have cC:wr.cell? ⟨cZ,0,none⟩=some (.int .i64 (nM g.s i:Int)):=HI.out.Iu.cell 0;have b4:=B42.out.kept HI.out.pt.kept (by show¬(w.heap.size+1=g.ob\/w.heap.size+1=g.WB\/w.heap.size+1=cZ);omega);have b3:=B32.out.kept HI.out.pt.kept (by show¬(w.heap.size=g.ob\/w.heap.size=g.WB\/w.heap.size=cZ);omega);have t0:wr.cell? ⟨w.heap.size+1,0,none⟩=some (.string g.s):=b4.cell 0;have t1:wr.cell? ⟨w.heap.size+1,1,none⟩=some (.int .i64 0):=b4.cell 1;have m1:wr.cell? ⟨w.heap.size,1,none⟩=some (.int .i64 (u0:Int)):=b3.cell 1;have SH:=ai b3;have SI:=ai b4;clear b3 b4;obtain⟨ao,cv,hv⟩:=dY HI.out.pt.lu.row;subst hv;by_cases cP:i<=(aW g.s).length
  ·have hbd:=jK g.s i;rw[IC cP]at cC;have hle:(bd g.s i:Int)<=(g.s.size:Int):=(by omega);go_wp2_with fail;go_big_quiet (fail);have Y1:=ai (HI.out.nY ((I.refl aq wr).drewN nq));have YG:Hid (ay (wr.drewN nq) w.heap.size #[.slice (some ⟨mb,0,none⟩) g.ms.length c,.int .i64 (u0:Int),.int .i64 (G2:Int)] 52):=SH.out;have YI:Hid (ay (wr.drewN nq) (w.heap.size+1) #[.string g.s,.int .i64 0,.int .i32 (-1),.int .i32 (-1),.bool false] 88):=SI.out;have cCa:(wr.drewN nq).cell? ⟨cZ,0,none⟩=some (.int .i64 (bd g.s i:Int)):=cC;have t1a:(wr.drewN nq).cell? ⟨w.heap.size+1,1,none⟩=some (.int .i64 0):=t1;have m1a:(wr.drewN nq).cell? ⟨w.heap.size,1,none⟩=some (.int .i64 (u0:Int)):=m1;generalize wr.drewN nq=wa at*;clear HI SH SI cC t0 t1 m1;go_wp2_with fail;go_big_quiet (fail);have sE:=ai (Y1.out.nY ((I.refl aq wa).drewN nq));have YH:Hid (ay (wa.drewN nq) w.heap.size #[.slice (some ⟨mb,0,none⟩) g.ms.length c,.int .i64 (u0:Int),.int .i64 (G2:Int)] 52):=YG.out;have Oi:Hid (ay (wa.drewN nq) (w.heap.size+1) #[.string g.s,.int .i64 0,.int .i32 (-1),.int .i32 (-1),.bool false] 88):=YI.out;have m1b:(wa.drewN nq).cell? ⟨w.heap.size,1,none⟩=some (.int .i64 (u0:Int)):=m1a;generalize wa.drewN nq=wb at*;clear Y1 YG YI cCa t1a m1a;obtain⟨ae,wd,hO,ua⟩:=sE.out.pt.out;have F:=T4 qy.out hO (u:=u0) Jo cP ua;have HR:=ai (HT.out i cP);have ru:=ai hO;have Fi:=ai ua;clear hO ua
   cases IR:T i with
   |none=>
    rw[Xa (gs:=List.replicate (2*G2) (-1)) (by have:=HR.out;rw[IR]at this;exact this)]at F;have F:=ai F;have uQ:=ai IR;clear IR;go_wp2_with fail;refine(F.out).mono ?_;rintro e w5 ⟨rfl,ze,AW,o5,eY,k5⟩;have yW:Hid (yU w2 w5 g w2.heap.size cZ wf T (2*G2) i told (.slice ao l.length cv) l):=⟨sE.out.yv,sE.out.Sl,sE.out.pt.Xd k5 Oj.out ⟨ze,AW,o5,eY⟩,sE.out.Iu.kept k5 (by have:=Km.out;omega),sE.out.rest,sE.out.cB⟩;have J9:=ai (Oi.out.kept k5 (by show¬(w.heap.size+1=g.ob\/w.heap.size+1=g.WB);omega));have Zk:=ai o5.at_.rk.vR;clear o5 eY k5 F sE YH Oi m1b ru Fi HR;go_wp2_with fail
    have PS:Hid (∀W,I aq w5 W->YA cZ (w.heap.size+1) (bd g.s i:Int) g.s W):=fun W k=>by
     have a1:=(yW.out.Iu.kept k (fun h=>h)).cell 0;rw[IC cP]at a1;exact⟨a1,(J9.out.kept k (fun h=>h)).cell 0⟩
    have az:=PS.out w5.drew (I.refl aq w5).drew;refine pR (kH (S:=YA cZ (w.heap.size+1) (bd g.s i:Int) g.s) 11 (by kernel_rfl) rfl rfl rfl (by kernel_rfl) (by kernel_rfl) ?_);refine aB 0 39 (.pointer (some ⟨cZ,0,none⟩)) az ?_;refine aB 1 40 (.pointer (some ⟨cZ,0,none⟩)) az ?_;refine aB 2 41 (.pointer (some ⟨cZ,0,none⟩)) az ?_;refine aB 3 42 (.int .i64 (bd g.s i:Int)) az ?_;refine aB 4 43 (.pointer (some ⟨w.heap.size+1,0,none⟩)) az ?_;refine aB 5 44 (.string g.s) az ?_;refine aB 6 45 (.int .i64 (bd g.s i:Int)) az ?_;simp only[Act.put,Ac,Ak,Aj];refine Ax (rs:=[7]) (by kernel_rfl) (by simp) (An rfl (fun K hK=>?_) As);have F2:=aft w5.drew g.s i cP hs (Zk.out.nY (I.refl aq w5).drew);obtain⟨qv,yu⟩:∃qv,qv=(nM g.s (i+1):Int)-(bd g.s i:Int):=⟨_,rfl⟩
    rw[<-yu]at F2;have IT:(bd g.s i:Int)+qv=(nM g.s (i+1):Int):=(by omega);have Qd:=abn cP;have Wh:IntKind.i64.wrap (nM g.s (i+1):Int)=(nM g.s (i+1):Int):=by rw[By];omega
    have F2:=ai F2;clear yu;go_simp;refine(F2.out).mono ?_;rintro e w6 ⟨rfl,k6⟩;dsimp only;have K6:Hid (I aq w5 w6):=(I.refl aq w5).drew.trans k6;refine hK.out _ _ (PS.out _ K6.out) (fun _=>?_);clear hK K k6 F2;refine Ax (rs:=[8]) (by kernel_rfl) (by simp) (An rfl (fun K hK=>?_) As);go_simp;refine hK.out _ _ (PS.out _ K6.out) (fun _=>?_);clear hK K;refine Ax (rs:=[9]) (by kernel_rfl) (by simp) (An rfl (fun K hK=>?_) As);go_simp;refine hK.out _ _ (PS.out _ K6.out) (fun _=>?_);clear hK K;refine Ax (rs:=[10]) (by kernel_rfl) (by simp) (An rfl (fun K hK=>?_) As);go_simp;refine hK.out _ _ (PS.out _ K6.out) (fun _=>?_);clear hK K;refine Ba (by kernel_rfl) ?_ _;unfold iu;simp only[A4,Am,Ap];have CW:=yW.out.Iu.kept K6.out (fun h=>h);have x6:w6.cell? ⟨cZ,0,none⟩=some (.int .i64 (nM g.s i:Int)):=CW.cell 0;have y6:=CW.frozen 0
    have aO:Hid (yU w2 (w6.setCell ⟨cZ,0,none⟩ (.int .i64 (nM g.s (i+1):Int))) g w2.heap.size cZ wf T (2*G2) (i+1) told (.slice ao l.length cv) l):=by
     have k:I (fun i=>i=cZ) w6 (w6.setCell ⟨cZ,0,none⟩ (.int .i64 (nM g.s (i+1):Int))):=(I.refl (fun i=>i=cZ) w6).setCell (p:=⟨cZ,0,none⟩) (Or.inl rfl) _;refine⟨by omega,yW.out.Sl,((yW.out.pt.nY K6.out).one k Km.out LY.2.2 (by omega)).later (Ew _),?_,?_,Nat.le_succ_of_le yW.out.cB⟩
     ·have:=CW.setCell 0 (.int .i64 (nM g.s (i+1):Int));simpa using this
     ·rw[<-aa4 cP uQ.out];exact yW.out.rest
    clear CW PS az K6 yW J9 Zk;go_simp;refine oP ?_;go_wp2_with fail;go_roundg ((aW g.s).length+1-(i+1))
    case measure=>omega
    case rel=>exact⟨i+1,told,l,rfl,aO⟩
   |some v=>
    obtain⟨j,qa⟩:=v;rw[IR]at HR;rw[Rv HR.out]at F;have F:=ai F;have uQ:=ai IR;clear IR;go_wp2_with fail;refine(F.out).mono ?_;rintro e w5 ⟨rfl,ze,AW,o5,eY,k5⟩;have Tb:=ai (sE.out.pt.Xd k5 Oj.out ⟨ze,AW,o5,eY⟩);have YP:=ai (sE.out.Iu.kept k5 (by have:=Km.out;omega));have J9:=ai (Oi.out.kept k5 (by show¬(w.heap.size+1=g.ob\/w.heap.size+1=g.WB);omega));have OE:=ai sE.out.rest;have HTL:=ai sE.out.Sl;have hlf:=sE.out.cB;have F2:=ai (akX qy.out o5 cP eY iU.out Jo SR.out Ga HR.out);have VZ:w2.heap.size<=w5.heap.size:=Tb.out.kept.size;clear o5 eY k5 F sE YH Oi m1b ru Fi;go_wp2_with fail;refine(F2.out).mono ?_;rintro e w6 ⟨gb,rfl,kj,hBg,agH,wd6,o6,IU,k6⟩;have jk:=HR.out.fwd cP j qa rfl;have vq:j<=(aW g.s).length:=jk.2.1;have mx:=jk.1;have Y7:=ai (Tb.out.Xd k6 Oj.out ⟨agH,wd6,o6,IU⟩);have YQ:=ai (YP.out.kept k6 (by have:=Km.out;omega));have Yt:=ai (J9.out.kept k6 (by show¬(w.heap.size+1=g.ob\/w.heap.size+1=g.WB);omega));have Fh:=ai hBg;have Zl:=ai o6.at_.rk.vR;have V0:=k6.size;have apU:=jK g.s j;clear jk o6 IU k6 hBg F2 Tb YP J9;go_wp2_with fail;have iS:I aq w6 (w6.alloc (.cells #[.int .i64 (bd g.s i:Int),.int .i64 (bd g.s j:Int),.slice (some ⟨gb,0,none⟩) (2*G2) (2*G2),.string (g.s.extract (bd g.s i) (bd g.s j))] 72)):=(I.refl aq w6).alloc _;have Y8:=ai (Y7.out.nY iS);have YR:=ai (YQ.out.kept iS (fun h=>h));have SA:=ai (Yt.out.kept iS (fun h=>h));have YK:=ai (Fh.out.kept iS (fun h=>h));have Zm:=ai (Zl.out.nY iS);have J8:Hid (ay (w6.alloc (.cells #[.int .i64 (bd g.s i:Int),.int .i64 (bd g.s j:Int),.slice (some ⟨gb,0,none⟩) (2*G2) (2*G2),.string (g.s.extract (bd g.s i) (bd g.s j))] 72)) w6.heap.size #[.int .i64 (bd g.s i:Int),.int .i64 (bd g.s j:Int),.slice (some ⟨gb,0,none⟩) (2*G2) (2*G2),.string (g.s.extract (bd g.s i) (bd g.s j))] 72):=ay.new w6 _ _;have Jn:w6.heap.size<(w6.alloc (.cells #[.int .i64 (bd g.s i:Int),.int .i64 (bd g.s j:Int),.slice (some ⟨gb,0,none⟩) (2*G2) (2*G2),.string (g.s.extract (bd g.s i) (bd g.s j))] 72)).heap.size:=(by simp);generalize w6.alloc (.cells #[.int .i64 (bd g.s i:Int),.int .i64 (bd g.s j:Int),.slice (some ⟨gb,0,none⟩) (2*G2) (2*G2),.string (g.s.extract (bd g.s i) (bd g.s j))] 72)=w7 at*;obtain⟨jJ,abI⟩:∃jJ,jJ=w6.heap.size:=⟨_,rfl⟩
    rw[<-abI]at J8 Jn V0⊢;clear abI iS Y7 YQ Yt Fh Zl;have PS:Hid (∀W,I aq w7 W->YB jJ (w.heap.size+1) (bd g.s i:Int) (bd g.s j:Int) g.s W):=(fun W k=>⟨⟨(J8.out.kept k (fun h=>h)).cell 0,(J8.out.kept k (fun h=>h)).cell 1⟩,(SA.out.kept k (fun h=>h)).cell 0,(SA.out.kept k (fun h=>h)).cell 1⟩);have az:=PS.out w7.drew (I.refl aq w7).drew;refine pR (kH (S:=YB jJ (w.heap.size+1) (bd g.s i:Int) (bd g.s j:Int) g.s) 13 (by kernel_rfl) rfl rfl rfl (by kernel_rfl) (by kernel_rfl) ?_);refine aB 0 58 (.pointer (some ⟨cZ,0,none⟩)) az ?_;refine aB 1 59 (.pointer (some ⟨jJ,0,none⟩)) az ?_;refine aB 2 60 (.int .i64 (bd g.s i:Int)) az ?_;refine aB 3 61 (.pointer (some ⟨jJ,1,none⟩)) az ?_;refine aB 4 62 (.int .i64 (bd g.s j:Int)) az ?_;refine aB 5 63 (.pointer (some ⟨w.heap.size+1,0,none⟩)) az ?_;refine aB 6 64 (.string g.s) az ?_;refine aB 7 65 (.pointer (some ⟨jJ,1,none⟩)) az ?_;refine aB 8 66 (.int .i64 (bd g.s j:Int)) az ?_;refine aB 9 67 (.pointer (some ⟨w.heap.size+1,1,none⟩)) az ?_;refine aB 10 68 (.int .i64 0) az ?_;refine jV 11 69 (.int .i64 (bd g.s j:Int)) rfl rfl (by kernel_rfl) (by kernel_rfl) (by kernel_rfl) (fun _ _ _ h=>h) (Or.inl ⟨by rfl,fun W dJ=>by obtain⟨⟨s0,s1⟩,s2,s3⟩:=dJ;go_simp;rw[By];omega⟩) az ?_;simp only[Act.put,Ac,Ak,Aj];refine Ax (rs:=[12]) (by kernel_rfl) (by simp) (An rfl (fun K hK=>?_) As);have F2:=aft w7.drew g.s j vq hs (Zm.out.nY (I.refl aq w7).drew);obtain⟨qv,yu⟩:∃qv,qv=(nM g.s (j+1):Int)-(bd g.s j:Int):=⟨_,rfl⟩
    rw[<-yu]at F2;have IT:(bd g.s j:Int)+qv=(nM g.s (j+1):Int):=(by omega);have Qd:=abn vq;have Wh:0<=qv/\qv<=4:=(by omega);have HAD:=ai IT;have F2:=ai F2;clear yu IT Qd;go_simp;refine(F2.out).mono ?_;rintro e w8 ⟨rfl,k8⟩;dsimp only;have K8:Hid (I aq w7 w8):=(I.refl aq w7).drew.trans k8;refine hK.out _ _ (PS.out _ K8.out) (fun _=>?_);clear hK K k8 F2;refine Ba (by kernel_rfl) ?_ _;unfold iu;simp only[A4,Am,Ap];have F3:=amq w8 cZ (nM g.s i:Int) (J2 g.s told) (bd g.s i:Int) (bd g.s j:Int) qv (YR.out.kept K8.out (fun h=>h)) (by omega) Wh;obtain⟨rb,i',rW,vj,aS,abP,abQ⟩:=amp H4.out cP vq mx uQ.out HTL.out HAD.out;rw[rW,vj]at F3;have F3:=ai F3;have Y9:=ai (Y8.out.nY K8.out);have YL:=ai (YK.out.kept K8.out (fun h=>h));have Yp:=ai (J8.out.kept K8.out (fun h=>h));have MD:=K8.out.size;have SM:=ai abP;have lH:=ai abQ;clear PS az rW vj abP abQ Y8 YR SA YK Zm J8;go_simp;refine(F3.out).mono ?_;rintro e w9 ⟨rfl,k9,hc9⟩;dsimp only;refine oP ?_;have Kw:=ai ((Y9.out.one k9 Km.out LY.2.2 (by omega)).later (MN:=i') (by omega));have Om:=ai hc9;have YM:=ai (YL.out.kept k9 (by omega));have afI:=k9.cell (p:=⟨jJ,0,none⟩) (by show jJ<_;omega) (by show¬jJ=cZ;omega);have BX:=Yp.out.kept k9 (by omega);have x0:w9.cell? ⟨jJ,0,none⟩=some (.int .i64 (bd g.s i:Int)):=BX.cell 0;have x1:w9.cell? ⟨jJ,1,none⟩=some (.int .i64 (bd g.s j:Int)):=BX.cell 1;have x2:w9.cell? ⟨jJ,2,none⟩=some (.slice (some ⟨gb,0,none⟩) (2*G2) (2*G2)):=BX.cell 2;have x3:w9.cell? ⟨jJ,3,none⟩=some (.string (g.s.extract (bd g.s i) (bd g.s j))):=BX.cell 3;have hs9:=k9.size;have hTJ:∀k,some j=some k->k<=(aW g.s).length:=fun k h=>by cases h;exact vq
    clear afI BX k9 hc9 F3 Y9 YL Yp
    cases rb with
    |false=>
     have aO:Hid (yU w2 w9 g w2.heap.size cZ wf T (2*G2) i' (some j) (.slice ao l.length cv) l):=⟨aS.2.1,hTJ,Kw.out,Om.out,by rw[<-lH.out rfl];exact OE.out,by omega⟩;clear Kw Om SM lH OE;go_wp2_with fail;go_roundg ((aW g.s).length+1-i')
     case measure=>omega
     case rel=>exact⟨i',some j,l,rfl,aO⟩
    |true=>
     have rR:l.length<=10000000:=by have:=RW g.s;omega
     have qA:=ai Kw.out.lu.row;go_wp2_with (at_builtin;refine Ad _ rfl _ _ 22 rfl w2.heap.size 72 ie _ 4 56 underlying22 uf QH QE P6 rfl (by decide) _ _ _ rfl (qA.out.alloc _) ⟨w9.heap.size,0,none⟩ 1 1 (CM g.s (2*G2) ⟨i,j,qa⟩ gb) rfl rfl ?c1 ?c2 ?c3 ?c4 ?c5 ?_)
     case c1=>
      intro q u hq;simpa[CM]using hq
     case c2=>
      intro u hu;unfold CM at hu;simp at hu;rcases hu with rfl|rfl|rfl|rfl<;>rfl
     case c3=>unfold maxLen;omega
     case c4=>omega
     case c5=>omega
     intro v' gZ bE aX cJ bH;obtain⟨rA,c',rfl⟩:=dY bE
     have aO:Hid (yU w2 gZ g w2.heap.size cZ wf T (2*G2) i' (some j) (.slice rA (l.length+1) c') (l++[(⟨i,j,qa⟩,gb)])):=by
      obtain⟨hp,kp⟩:=Kw.out.push (p:=(⟨i,j,qa⟩,gb)) Oj.out rfl ((I.refl aq w9).alloc _) ⟨by show w2.heap.size<=gb;omega,YM.out⟩ bE aX;refine⟨aS.2.1,hTJ,hp,Om.out.kept kp (by omega),?_,by simp;omega⟩;rw[<-OE.out,SM.out (by first|rfl|trivial)];simp
     clear bE aX cJ bH Kw Om SM lH OE qA YM;go_wp2_with fail;go_roundg ((aW g.s).length+1-i')
     case measure=>omega
     case rel=>exact⟨i',some j,l++[(⟨i,j,qa⟩,gb)],rfl,aO⟩
  ·have ap8:i=(aW g.s).length+1:=by have:=HI.out.yv;omega
   rw[Uz (by omega)]at cC;have hle:¬((g.s.size+1:Nat):Int)<=(g.s.size:Int):=by omega
   have aO:Hid (nu wr w.heap.size (.slice ao l.length cv) g.s (2*G2) l/\l.map (·.1)=gT T (aW g.s).length 0 none/\I (fun i=>i=cZ) w wr):=by
    have hr:=HI.out.rest;rw[Uf (by omega),C8]at hr;have he:=HI.out.pt.lu;refine⟨⟨Rz he.row (by omega),fun p hp=>⟨by have:=(he.bK p hp).1;omega,(he.bK p hp).2⟩⟩,hr,(K2.out.mono (S':=fun i=>i=cZ) (fun _ h=>h.elim)).bY HI.out.pt.kept (fun i hi e=>by omega)⟩
   clear HI SH SI;go_wp2_with fail;go_big_quiet (fail);go_wp2_with fail;go_ret;exact⟨_,l,rfl,aO.out.1.kept ((I.refl aq wr).drewN nq) (fun _ _ h=>h),aO.out.2.1,aO.out.2.2.drewN nq⟩
theorem ali(w:World):Calls prog 27 #[] w fun e w'=>e=.returned (.agg #[.int .i64 0,.int .i64 (-1)])/\I aq w w':=by
 go_in
 go_wp2_with fail
 exact Ct (v:=.agg #[.int .i64 0,.int .i64 (-1)]) (by simp[results,results27,go_sem]) rfl ⟨rfl,(I.refl aq w).alloc _⟩
theorem afH(hM:Fu w lo hi mb c vs ms)(qg:uR ms)(hq:jH (G2:Int) ms)(dg:ms.length<=4001)(hs:s.size<=10000000)(Jo:u0<ms.length)(Ga:G2<=100000)
 (hT:∀i,i<=(aW s).length->bA ms (cG s) (u0:Int) i (List.replicate (2*G2) (-1)) (T i))(sX:BC T (aW s).length):
 Calls prog 12 #[.agg #[.slice (some ⟨mb,0,none⟩) ms.length c,.int .i64 (u0:Int),.int .i64 (G2:Int)],.string s] w fun e w'=>∃(v:Value) (l:List (Ev×Nat)),e=.returned v/\nu w' w.heap.size v s (2*G2) l/\l.map (·.1)=gT T (aW s).length 0 none/\I aq w w':=by
 have hTl:=hM.vR.lt;have hMl:=hM.qZ.lt;have hHl:=hM.le;have F:=ai fun(W:World)=>ali W
 have F2:=ai fun(W:World) (k:I aq w W) (cZ:Nat) (hc:ay W cZ #[.int .i64 0,.int .i64 (-1)] 84) (gU:w.heap.size<=cZ)=>afK (hM.kept k) qg hq dg hs Jo Ga hT sX hc ⟨by omega,by omega,by omega,by omega⟩
 clear hM qg hq hT sX;go_in;go_wp2_with fail;refine(F.out _).mono ?_;rintro e w1 ⟨rfl,k1⟩;have hb:=(ay.new w #[.slice (some ⟨mb,0,none⟩) ms.length c,.int .i64 (u0:Int),.int .i64 (G2:Int)] 52).kept k1 (fun h=>h);have x0:w1.cell? ⟨w.heap.size,0,none⟩=some (.slice (some ⟨mb,0,none⟩) ms.length c):=hb.cell 0;have x1:w1.cell? ⟨w.heap.size,1,none⟩=some (.int .i64 (u0:Int)):=hb.cell 1;have x2:w1.cell? ⟨w.heap.size,2,none⟩=some (.int .i64 (G2:Int)):=hb.cell 2;have gj:=hb.lt;have K1:Hid (I aq w w1):=((I.refl aq w).alloc _).trans k1;clear hb k1;go_wp2_with fail;have K2:Hid (I aq w (w1.alloc (.cells #[.int .i64 0,.int .i64 (-1)] 84))):=K1.out.alloc _;have FF:=ai (F2.out _ K2.out w1.heap.size (ay.new w1 _ _) K1.out.size);refine(FF.out).mono ?_;rintro e w3 ⟨v,l,rfl,hE,hl,k3⟩;have ew:=K1.out.size
 have aO:Hid (nu w3 w.heap.size v s (2*G2) l/\l.map (·.1)=gT T (aW s).length 0 none/\I aq w w3):=by
  have e:(w1.alloc (.cells #[.int .i64 0,.int .i64 (-1)] 84)).heap.size=w1.heap.size+1:=cR _ _;rw[e]at hE;exact⟨⟨Rz hE.row (by omega),fun p hp=>⟨by have:=(hE.bK p hp).1;omega,(hE.bK p hp).2⟩⟩,hl,K2.out.bY k3 (fun i hi e=>by omega)⟩
 clear hE hl k3 FF F2;go_wp2_with fail;go_ret;exact⟨v,l,rfl,aO.out.1,aO.out.2.1,aO.out.2.2⟩
theorem xM.ma(h:xM w lo hi base v ms)(aF:ms≠ [])(hle:hi<=w.heap.size)(hT:j9 w):∃mb c vs,v=.slice (some ⟨mb,0,none⟩) ms.length c/\Fu w lo hi mb c vs ms:=by
 obtain⟨vs,h1,h2,h3⟩:=h;obtain⟨hx,jx⟩:=h1;rcases jx with⟨_,h0⟩|⟨g,cap,aU,rfl,a1,a2,a3,a4,a5,a6⟩
 ·exact absurd (Az.1 h0) aF
 ·refine⟨g,cap,vs,rfl,⟨⟨h2,fun i aS j hj=>?_,(Ah.1 a2).1,fun i b1 b2=>⟨(h3 i b1 b2).k,(h3 i b1 b2).nx,(h3 i b1 b2).ot⟩⟩,h3,hle,hT⟩⟩;have hf:=Un vs i (by omega) j hj;rw[<-hf,<-a6,Al (by omega)];simp only[World.cell?,a2];simp
def wC(p s:ByteArray):List Ev:=gT (AS (pJ p) (gk p) (cG s)) (aW s).length 0 none
theorem aid(p s:ByteArray)(w:World)(hp:p.size<=maxLen)(hs:s.size<=10000000)(hT:j9 w):Calls prog 6 #[.string p,.string s] w fun e w'=>I aq w w'/\((kZ p≠0/\e=.returned (.tuple #[.slice none 0 0,.int .i64 (kZ p)]))\/(kZ p=0/\∃(v:Value) (l:List (Ev×Nat)),e=.returned (.tuple #[v,.int .i64 0])/\nu w' w.heap.size v s (2*gk p) l/\l.map (·.1)=wC p s)):=by
 have HT:=ai hT;clear hT;by_cases hl:300<p.size
 ·have e1:kZ p=1:=if_pos hl;have F:=ai (amW p w hl hp);have HE:=ai e1;clear e1;go_in;go_wp2_with fail;refine(F.out).mono ?_;rintro e w1 ⟨rfl,k1⟩;have K1:=ai k1;clear k1 F;simp only[uH,ik];go_wp2_with fail;go_ret2;refine⟨?_,Or.inl ⟨by rw[HE.out];decide,by rw[HE.out];rfl⟩⟩;exact K1.out.alloc _
 ·have uh:p.size<=300:=by omega
  have F:=ai (amX p w uh);go_in;go_wp2_with fail;refine(F.out).mono ?_;rintro e w1 ⟨g,q,x,y,st,uj,yp,rfl,k1,cS,bC⟩;obtain⟨a1,a2,a3⟩:=apk uj yp;rw[a1]at cS bC;rw[a2,a3]at bC;have zA:(pick (ix g p)).1=kZ p:=by unfold kZ;rw[if_neg hl,a3]
  have acb:(pick (ix (f_ p) p)).1=kZ p:=by unfold kZ;rw[if_neg hl]
  rw[zA];rw[acb]at bC;clear zA acb a1 a2 a3 uj yp;generalize(pick (ix g p)).2=pl;have K1:=ai k1;clear k1 F;by_cases he:kZ p=0
  ·obtain⟨hx,hy,Jl,Jj,DS⟩:=bC he;obtain⟨c1,c2,c3,c4⟩:=NF uh he;have hG:x=(gk p:Int):=by rw[hx,cS];rfl
   have hGb:gk p<=100000:=by
    have h1:=Jl.aC;have h2:=(Jl.next);have h3:=Jl.len;have h4:st.aC=gk p:=by rw[cS];rfl
    simp only at h1 h2;omega
   have hcz:(pJ p).sz<=1000:=by have:=Jj.size_eq;rw[show pJ p=qD (f_ p) (bP p)from rfl,this];exact c2
   subst hG;have HE:=ai he;have HPT:Hid (c_ w1 w.heap.size w1.heap.size q (dw (f_ p) (bP p)).2 (pJ p)):=Jj;rw[he];have ew:=K1.out.size;clear hx hy Jl Jj DS bC cS he c2;simp only[uH,ik];have B2:Hid (ay (w1.alloc (.cells #[.int .i64 q.k,.slice q.pa q.pn q.pc,.slice q.sa q.sn q.sc,.int .i64 q.ed,.int .i64 q.gr,.int .i64 q.lo,.int .i64 q.hi,.bool q.lz,.int .i64 (gk p:Int),.map y] 46)) w1.heap.size #[.int .i64 q.k,.slice q.pa q.pn q.pc,.slice q.sa q.sn q.sc,.int .i64 q.ed,.int .i64 q.gr,.int .i64 q.lo,.int .i64 q.hi,.bool q.lz,.int .i64 (gk p:Int),.map y] 46):=ay.new w1 _ _;have ng:Hid (I aq w1 (w1.alloc (.cells #[.int .i64 q.k,.slice q.pa q.pn q.pc,.slice q.sa q.sn q.sc,.int .i64 q.ed,.int .i64 q.gr,.int .i64 q.lo,.int .i64 q.hi,.bool q.lz,.int .i64 (gk p:Int),.map y] 46))):=(I.refl aq w1).alloc _;go_wp2_with fail;have F:=afS (HPT.out.kept ng.out (fun _ _ _ hx=>hx) (Aa _)) ng.out.size c1 hcz (gk p:Int) y;simp only[uH,ik]at F;have F:=ai F;refine(F.out).mono ?_;rintro e w3 ⟨v',V,j,rfl,k3,eZ,hmc,dA⟩;have Tm:Hid (I aq w w3):=(K1.out.trans ng.out).trans k3;have Jm:=k3.size;have oJ:=ng.out.size;obtain⟨u0,Wa,oO⟩:=eZ.start;have hol:=eZ.adJ.1;have lX:(sorted (fR (pJ p)).1 V).length=V.aR.length:=(by simp[sorted]);obtain⟨mb,c,vs,jb,hma⟩:=hmc.ma (by intro e;have:=congrArg List.length e;rw[lX]at this;have h0:V.aR.length=0:=this;omega) (by omega) (HT.out.nY Tm.out);subst jb;have hAQ:jH (gk p:Int) (sorted (fR (pJ p)).1 V):=an0 (aan c3 c4);have F2:=afH (s:=s) (u0:=u0) (G2:=gk p) (T:=AS (pJ p) (gk p) (cG s)) hma (eZ.LB (aan c3 c4)) hAQ (by rw[lX];omega) hs (by rw[lX];exact oO) hGb (fun i hi=>eZ.jf c1 hcz c3 (cG s) Wa hi _) (Yc c3 s);rw[Wa];have F2:=ai F2;generalize(sorted (fR (pJ p)).1 V).length=nn at*;clear hmc hma eZ hAQ lX hol Wa oO dA k3 F;go_wp2_with fail;refine(F2.out).mono ?_;rintro e w4 ⟨v,l,rfl,hE,rR,k4⟩
   have aO:Hid (I aq w w4/\nu w4 w.heap.size v s (2*gk p) l/\l.map (·.1)=wC p s):=by
    have VY:=Tm.out.size;exact⟨Tm.out.trans k4,⟨Rz hE.row VY,fun r hr=>⟨by have:=(hE.bK r hr).1;omega,(hE.bK r hr).2⟩⟩,rR⟩
   clear hE rR k4 F2;go_wp2_with fail;go_ret2;exact⟨aO.out.1,Or.inr ⟨HE.out,v,l,rfl,aO.out.2.1,aO.out.2.2⟩⟩
  ·obtain⟨pe,BH⟩:∃pe,Hid (kZ p=pe):=⟨_,(rfl:_=_)⟩
   rw[BH.out]at he⊢;have aF:(pe !=0)=true:=(by simpa using he);have HE:=ai he;simp only[uH,ik];clear bC he;go_wp2_with fail;go_ret2;exact⟨K1.out.alloc _,Or.inl ⟨by rw[BH.out];exact HE.out,by rw[BH.out];rfl⟩⟩
end Go.Proofs.YtmbpfhlnifdhgaaGreatDoor
