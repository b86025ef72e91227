/- Package whole's match -/
import Derived.Test.YtpdnofhackjfdaaGreatDoorP25
set_option linter.all false
set_option maxRecDepth 100000
set_option maxHeartbeats 8000000
namespace Go.Proofs.YtpdnofhackjfdaaGreatDoor
open Go.Proofs.Tryz
open Go.RowKit Go.Maps
variable {X:ByteArray} {c:CX} {res:iH} {gs:List Int} {wf wr:List Nat} {N2 b ak gb i i0 i1 j k u:Nat} {g:OG} {w w':World}
def OG.below(g:OG)(b:Nat):Prop:=(g.ob<b/\g.mb<b/\g.hi<=b)/\(0<b/\1<b)/\(g.cK<b/\g.fh<b/\g.rh<b)/\g.FB<b/\g.WB<b
theorem ij.below(h:ij w g ak wf wr):g.below w.heap.size:=⟨⟨h.rk.out.lt,h.rk.ic.lt,h.rk.le⟩,h.rk.jK.lt,h.lt,h.bf.lt,h.bw.lt⟩
theorem ij.wQ(h:ij w g ak wf wr)(hb:g.below b)(k:aa (fun i=>b<=i) w w'):ij w' g ak wf wr where
 rk:=h.rk.kept k (by have:=hb.1;omega) (by have:=hb.1;omega) (fun i _ h2=>by have:=hb.1;omega) (by have:=hb.2.1;omega) (by have:=hb.2.1;omega)
 bg i hi:=(k.cell (p:=⟨g.cK,i,none⟩) h.lt.1 (by have:=hb.2.2.1;show¬b<=g.cK;omega)).trans (h.bg i hi)
 fh i hi:=(k.cell (p:=⟨g.fh,i,none⟩) h.lt.2.1 (by have:=hb.2.2.1;show¬b<=g.fh;omega)).trans (h.fh i hi)
 rh i hi:=(k.cell (p:=⟨g.rh,i,none⟩) h.lt.2.2 (by have:=hb.2.2.1;show¬b<=g.rh;omega)).trans (h.rh i hi)
 lt:=by have:=k.size;have:=h.lt;omega
 bf:=h.bf.kept k (by have:=hb.2.2.2;omega)
 bw:=h.bw.kept k (by have:=hb.2.2.2;omega)
 fl:=h.fl
 wl:=h.wl
theorem oO.wQ(h:oO w g ak wf wr)(hb:g.below b)(k:aa (fun i=>b<=i) w w'):oO w' g ak wf wr:=⟨h.at_.wQ hb k,h.lt,h.Ln,h.rows⟩
theorem afd(w:World)(s:ByteArray)(i:Nat)(hi:i<(aF s).length)(hs:s.size<=10000000)(hT:ik w):Calls prog 62 #[.string s,.int .i64 (bd s i:Int)] w fun e w'=>e=.returned (.int .i64 ((bd s (i+1):Int)-(bd s i:Int)))/\aa af w w':=by
 refine(aff s (bd s i) w (iP s i) (by omega) hT).mono ?_;rintro e w' ⟨rfl,hk⟩;refine⟨?_,hk⟩;have h1:=wL hi;have h2:=tJ hi;have h3:=pE hi;rw[Tx s _ h1];congr 2;omega
theorem ajW(gs:List Int)(k:Nat)(v:Int):(cH gs).toArray.setIfInBounds k (.int .i64 v)=(cH (gs.set k v)).toArray:=by
 unfold cH;simp[Fe]
structure uR(w wr:World)(g:OG)(gb:Nat)(wf:List Nat)(i u:Nat)(gs:List Int)(res:iH)(N2:Nat):Prop where
 xl:i<=(aF g.x.s).length
 ae9:u<g.ms.length
 iy:cW g.ms g.x (u:Int) i gs=res
 out:∃ak wd,oO wr g ak wf wd/\g.aD.getD ak 0<=i
 fE:aq wr gb (cH gs).toArray 3
 len:gs.length=N2
 kept:aa (fun i=>i=g.ob\/i=g.WB) w wr
 box:aq wr w.heap.size #[.int .i64 0,.int .i64 0,.slice none 0 0,.string ⟨#[]⟩] 46
theorem uR.iU{wr:World}(h:uR w wr g gb wf i u gs res N2)(k:aa af wr w'):uR w w' g gb wf i u gs res N2:=by
 obtain⟨ak,wd,o1,o2⟩:=h.out;exact⟨h.xl,h.ae9,h.iy,⟨ak,wd,o1.kept k,o2⟩,h.fE.kept k (fun h=>h),h.len,h.kept.trans (k.mono (fun _ h=>h.elim)),h.box.kept k (fun h=>h)⟩
theorem uR.go{wr:World}{i' u':Nat}(h:uR w wr g gb wf i u gs res N2)(hi:i<=i')(hi':i'<=(aF g.x.s).length)(hu:u'<g.ms.length)(hr:cW g.ms g.x (u':Int) i' gs=res):uR w wr g gb wf i' u' gs res N2:=by
 obtain⟨ak,wd,o1,o2⟩:=h.out;exact⟨hi',hu,hr,⟨ak,wd,o1,by omega⟩,h.fE,h.len,h.kept,h.box⟩
def SI(w:World)(g:OG)(wf:List Nat)(i0 j G:Nat)(jC:List Int)(e:Ending)(w':World):Prop:=((g.x.op&&decide (g.x.n<=j))=false->∃gb,e=.returned (.tuple #[.agg #[.int .i64 (g.x.aW i0),.int .i64 (g.x.aW j),.slice (some ⟨gb,0,none⟩) (2*G) (2*G),.string (g.x.s.extract (bd g.x.s i0) (bd g.x.s j))],.bool true])/\w.heap.size<=gb/\aq w' gb (cH jC).toArray 3)/\((g.x.op&&decide (g.x.n<=j))=true->e=.returned (.tuple #[.agg #[.int .i64 0,.int .i64 0,.slice none 0 0,.string ⟨#[]⟩],.bool false]))/\∃KR pY,oO w' g KR wf pY/\g.aD.getD KR 0<=j/\aa (fun i=>i=g.ob\/i=g.WB) w w'
theorem acJ{wd:List Nat}(hg:g.Ok)(hO:oO w g ak wf wd){u0 G:Nat}{jC:List Int}(cP:i0<=(aF g.x.s).length)(oe:g.aD.getD ak 0<=i0)(bt:g.st=(u0:Int))(rM:u0<g.ms.length)(hG:g.G=(G:Int))(IE:G<=100000)(hR:cW g.ms g.x (u0:Int) i0 (List.replicate (2*G) (-1))=some (j,jC)):
 Calls prog 63 #[.pointer (some ⟨g.ob,0,none⟩),.int .i64 (bd g.x.s i0:Int)] w fun e w'=>SI w g wf i0 j G jC e w':=by
 have HG:=ab hg;have HO:=ab hO;have CH:=ab oe;have HR:=ab hR;have lF:=ab bt;have HFW:=ab (BZ hg.ft g.x rM cP _ j jC hR);have CI:=ab hO.at_.below;have aS:=hg.size;have dh:=hg.bT;have Sm:=ab hG;have c2:w.cell? ⟨g.ob,2,none⟩=some (.int .i64 (G:Int)):=by rw[<-hG];exact hO.at_.rk.out.cell 2
 have ki:=hO.at_.rk.out.lt;obtain⟨N2,wS⟩:∃N2,N2=2*G:=⟨_,rfl⟩
 have hmul:2*(G:Int)=(N2:Int):=by omega
 rw[<-wS]at HR;have YO:=ab wS;have apf:N2<=200000:=by omega
 clear hg hO oe hR bt hG wS;go_in;go_wp2_with fail;have KA:Hid (aa af w ((w.alloc (.cells #[.int .i64 0,.int .i64 0,.slice none 0 0,.string ⟨#[]⟩] 46)).alloc (.cells #[.int .i64 (-1)] 3))):=((aa.refl af w).alloc _).alloc _;have BX:Hid (aq ((w.alloc (.cells #[.int .i64 0,.int .i64 0,.slice none 0 0,.string ⟨#[]⟩] 46)).alloc (.cells #[.int .i64 (-1)] 3)) w.heap.size #[.int .i64 0,.int .i64 0,.slice none 0 0,.string ⟨#[]⟩] 46):=(aq.new w _ _).alloc _
 have cm:((w.alloc (.cells #[.int .i64 0,.int .i64 0,.slice none 0 0,.string ⟨#[]⟩] 46)).alloc (.cells #[.int .i64 (-1)] 3)).cell? ⟨w.heap.size+1,0,none⟩=some (.int .i64 (-1)):=by
  have:=(aq.new (w.alloc (.cells #[.int .i64 0,.int .i64 0,.slice none 0 0,.string ⟨#[]⟩] 46)) #[.int .i64 (-1)] 3).cell 0;rw[fF]at this;exact this
 have Vn:((w.alloc (.cells #[.int .i64 0,.int .i64 0,.slice none 0 0,.string ⟨#[]⟩] 46)).alloc (.cells #[.int .i64 (-1)] 3)).heap.size=w.heap.size+1+1:=by simp
 have F:=ab (am6 ((w.alloc (.cells #[.int .i64 0,.int .i64 0,.slice none 0 0,.string ⟨#[]⟩] 46)).alloc (.cells #[.int .i64 (-1)] 3)) (w.heap.size+1) N2 cm (by omega));refine(F.out).mono ?_;rintro e w2 ⟨gb,kO,rfl,oc,k2⟩;rw[Vn]at kO
 have dr:Hid (uR w w2 g gb wf i0 u0 (List.replicate N2 (-1)) (some (j,jC)) N2):=by
  have k:aa af w w2:=KA.out.trans k2;refine⟨cP,rM,HR.out,⟨ak,wd,HO.out.kept k,CH.out⟩,?_,by simp,k.mono (fun _ h=>h.elim),BX.out.kept k2 (fun h=>h)⟩;have e:cH (List.replicate N2 (-1))=List.replicate N2 (.int .i64 (-1)):=by unfold cH;simp
  rw[e];exact oc
 have O2:=ab (HO.out.kept (KA.out.trans k2));have e4:w2.cell? ⟨g.ob,4,none⟩=some (.int .i64 g.x.aB):=O2.out.at_.rk.out.cell 4;have e3:w2.cell? ⟨g.ob,3,none⟩=some (.string g.x.s):=O2.out.at_.rk.out.cell 3;have e1:w2.cell? ⟨g.ob,1,none⟩=some (.int .i64 (u0:Int)):=by rw[<-lF.out];exact O2.out.at_.rk.out.cell 1
 clear oc k2 F cm KA BX Vn c2 HO O2 HR CH;go_wp2_with fail;go_big_quiet (fail);have tL:(w2.drewN nq).cell? ⟨g.ob,1,none⟩=some (.int .i64 (u0:Int)):=e1;have Zv:=ab (dr.out.iU ((aa.refl af w2).drewN nq));generalize w2.drewN nq=w3 at*;clear dr e1 e3 e4;go_wp2_with fail;go_big_quiet (fail);have Zw:=ab (Zv.out.iU ((aa.refl af w3).drewN nq));generalize w3.drewN nq=w4 at*;clear Zv tL;go_wp2_with fail;go_loopg [9,10] (((aF g.x.s).length-i0)*(g.ms.length+1)+u0) (fun kk v9 v10 wr=>∃(i u:Nat) (gs:List Int),v9=.int .i64 (bd g.x.s i:Int)/\v10=.int .i64 (u:Int)/\kk=((aF g.x.s).length-i)*(g.ms.length+1)+u/\Hid (uR w wr g gb wf i u gs (some (j,jC)) N2))
 case atStart=>exact⟨i0,u0,_,rfl,rfl,rfl,Zw⟩
 case round=>
  obtain⟨i,u,gs,rfl,rfl,eT,HM⟩:=hrel;clear Zw;have hu:=HM.out.ae9;have hi:=HM.out.xl;obtain⟨af8,wd1,o1,o2⟩:=HM.out.out;have O1:=ab o1;have iA:=ab o2;have e7:wr.cell? ⟨g.ob,7,none⟩=some (.bool g.x.op):=o1.at_.rk.out.cell 7;have e0:wr.cell? ⟨g.ob,0,none⟩=some (.slice (some ⟨g.mb,0,none⟩) g.ms.length g.c):=o1.at_.rk.out.cell 0;obtain⟨q,⟨sV,qE⟩,yD,mi⟩:=o1.at_.rk.ic.at hu;obtain⟨d0,d1,d2,d3,d4,d5⟩:=mi wr o1.at_.rk.ic;have iS:=o1.at_.rk.vZ u sV hu;rw[qE]at iS;have zx:=ab fun ht=>anf HG.out.ft g.x hi (Ae hu) ht HM.out.iy
  have lE:=ab (HG.out.ft u _ (Ae hu));have wv:=ab (HG.out.q _ (A5 hu));generalize hm:g.ms[u]=m at*;have ek:=iS.k;have esl:=iS.sl;have zN:=iS.nx;have zO:=iS.ot;clear hm mi qE sV yD iS o1 o2;obtain⟨qk,bP,b_,bQ,bH,ff,BV,BY⟩:=q;simp only at d0 d1 d2 d3 d4 d5 ek esl zN zO;subst ek esl zN zO;have apo:=iP g.x.s i
  have abP:∀(i' u':Nat),u'<g.ms.length->(i<i'/\i'<=(aF g.x.s).length\/i'=i/\u'<u)->((aF g.x.s).length-i')*(g.ms.length+1)+u'<((aF g.x.s).length-i)*(g.ms.length+1)+u:=by
   intro i' u' h1 h2;rcases h2 with⟨h2,h3⟩|⟨rfl,h2⟩
   ·have:=Bq (g.ms.length+1) (show(aF g.x.s).length-i'+1<=(aF g.x.s).length-i by omega);rw[Cq]at this;omega
   ·omega
  have Kh:=ab abP;have xS:=ab eT;clear abP eT;have IM:=HG.out.aB
  cases pN:(g.x.op&&decide (g.x.n<=i))with
  |true=>
   have dY:g.x.op=true/\g.x.n<=i:=(by simpa using pN);have hr:=HM.out.iy;rw[yX dY.1 dY.2]at hr;obtain⟨rfl,rfl⟩:i=j/\gs=jC:=by cases hr;exact⟨rfl,rfl⟩
   have AD:bd g.x.s i=g.x.s.size:=nf dY.2;have lN:¬(bd g.x.s i:Int)<(g.x.s.size:Int):=(by omega);rw[dY.1]at e7;have Og:=ab dY;clear hr dY pN zx lE wv;have bx:=HM.out.box;have x0:wr.cell? ⟨w.heap.size,0,none⟩=some (.int .i64 0):=bx.cell 0;have x1:wr.cell? ⟨w.heap.size,1,none⟩=some (.int .i64 0):=bx.cell 1;have x2:wr.cell? ⟨w.heap.size,2,none⟩=some (.slice none 0 0):=bx.cell 2;have x3:wr.cell? ⟨w.heap.size,3,none⟩=some (.string ⟨#[]⟩):=bx.cell 3;have y0:=bx.frozen 0;have y1:=bx.frozen 1;have y2:=bx.frozen 2;have y3:=bx.frozen 3;have RW:=ab bx;clear bx;go_wp2_with fail
   have B6:Hid (aq ((((wr.setCell ⟨w.heap.size,0,none⟩ (.int .i64 0)).setCell ⟨w.heap.size,1,none⟩ (.int .i64 0)).setCell ⟨w.heap.size,2,none⟩ (.slice none 0 0)).setCell ⟨w.heap.size,3,none⟩ (.string ⟨#[]⟩)) w.heap.size #[.int .i64 0,.int .i64 0,.slice none 0 0,.string ⟨#[]⟩] 46):=by
    have:=(((RW.out.setCell 0 (.int .i64 0)).setCell 1 (.int .i64 0)).setCell 2 (.slice none 0 0)).setCell 3 (.string ⟨#[]⟩);show aq _ _ _ _
    simpa using this
   have K6:Hid (aa (fun i=>i=w.heap.size) wr ((((wr.setCell ⟨w.heap.size,0,none⟩ (.int .i64 0)).setCell ⟨w.heap.size,1,none⟩ (.int .i64 0)).setCell ⟨w.heap.size,2,none⟩ (.slice none 0 0)).setCell ⟨w.heap.size,3,none⟩ (.string ⟨#[]⟩))):=((((aa.refl (fun i=>i=w.heap.size) wr).setCell (p:=⟨w.heap.size,0,none⟩) (Or.inl rfl) _).setCell (p:=⟨w.heap.size,1,none⟩) (Or.inl rfl) _).setCell (p:=⟨w.heap.size,2,none⟩) (Or.inl rfl) _).setCell (p:=⟨w.heap.size,3,none⟩) (Or.inl rfl) _;generalize((((wr.setCell ⟨w.heap.size,0,none⟩ (.int .i64 0)).setCell ⟨w.heap.size,1,none⟩ (.int .i64 0)).setCell ⟨w.heap.size,2,none⟩ (.slice none 0 0)).setCell ⟨w.heap.size,3,none⟩ (.string ⟨#[]⟩))=w6 at*;have z0:w6.cell? ⟨w.heap.size,0,none⟩=some (.int .i64 0):=B6.out.cell 0;have z1:w6.cell? ⟨w.heap.size,1,none⟩=some (.int .i64 0):=B6.out.cell 1;have z2:w6.cell? ⟨w.heap.size,2,none⟩=some (.slice none 0 0):=B6.out.cell 2;have z3:w6.cell? ⟨w.heap.size,3,none⟩=some (.string ⟨#[]⟩):=B6.out.cell 3;refine Bj (v:=.tuple #[.agg #[.int .i64 0,.int .i64 0,.slice none 0 0,.string ⟨#[]⟩],.bool false]) ?_ rfl ?_
   ·rw[results_cell_tmp rfl];simp only[Array.getD_eq_getD_getElem?,List.getElem?_toArray,D3,E6,Da];go_simp
   ·obtain⟨u7,wi,o5,gy⟩:=HM.out.out;have ue:(g.x.op&&decide (g.x.n<=i))=true:=by rw[Og.out.1,Cx Og.out.2];rfl
    unfold SI;exact⟨fun hx=>(by rw[ue]at hx;cases hx),fun _=>rfl,u7,wi,o5.wQ CI.out (K6.out.mono (fun i h=>by subst h;exact Ab _)),gy,HM.out.kept.bV K6.out (fun i hi e=>by omega)⟩
  |false=>
   have abO:g.x.op=true->(bd g.x.s i:Int)<(g.x.s.size:Int):=fun dY=>by
    rw[dY,E0,A8]at pN;have:=wL (s:=g.x.s) (i:=i) (show i<(aF g.x.s).length by unfold CX.n at pN;omega);omega
   have YK:=ab abO;clear abO
   cases dY:g.x.op
   all_goals rw[dY]at e7
   case' true=>have aw:=YK.out dY
   all_goals
    clear YK;rcases zx.out pN with⟨k0,er⟩|⟨k1,ht,hn⟩|⟨k1,ht,er⟩|⟨k2,he,hn⟩|⟨k2,he,er⟩|⟨k3,hn⟩|⟨k4,v,ev,hn⟩|⟨k4,hn,ho⟩
    ·obtain⟨rfl,rfl⟩:j=i/\jC=gs:=by cases er;exact⟨rfl,rfl⟩
     have Kr:=ab pN;rw[k0]at d0;have bM:=HFW.out;have FU:=fY g.x.s bM.1;obtain⟨mn,dG⟩:∃mn,m.next=mn:=⟨_,rfl⟩
     have F:=(ab fun(W:World)=>anq (g.x.s.extract (bd g.x.s i0) (bd g.x.s j)) W (by rw[extract_size g.x.s _ _ (iP g.x.s j)];omega));clear bM zx lE wv er;go_wp2_with fail;refine(F.out _).mono ?_;rintro e w5 ⟨rfl,k5⟩;have bx:=HM.out.box.kept k5 (fun h=>h);have x0:w5.cell? ⟨w.heap.size,0,none⟩=some (.int .i64 0):=bx.cell 0;have x1:w5.cell? ⟨w.heap.size,1,none⟩=some (.int .i64 0):=bx.cell 1;have x2:w5.cell? ⟨w.heap.size,2,none⟩=some (.slice none 0 0):=bx.cell 2;have x3:w5.cell? ⟨w.heap.size,3,none⟩=some (.string ⟨#[]⟩):=bx.cell 3;have y0:=bx.frozen 0;have y1:=bx.frozen 1;have y2:=bx.frozen 2;have y3:=bx.frozen 3;have RW:=ab bx;have M5:=ab (HM.out.iU k5);clear k5 bx F;go_wp2_with fail
     have B6:Hid (aq ((((w5.setCell ⟨w.heap.size,0,none⟩ (.int .i64 (g.x.aB+(bd g.x.s i0:Int)))).setCell ⟨w.heap.size,1,none⟩ (.int .i64 (g.x.aB+(bd g.x.s j:Int)))).setCell ⟨w.heap.size,2,none⟩ (.slice (some ⟨gb,0,none⟩) N2 N2)).setCell ⟨w.heap.size,3,none⟩ (.string (g.x.s.extract (bd g.x.s i0) (bd g.x.s j)))) w.heap.size #[.int .i64 (g.x.aB+(bd g.x.s i0:Int)),.int .i64 (g.x.aB+(bd g.x.s j:Int)),.slice (some ⟨gb,0,none⟩) N2 N2,.string (g.x.s.extract (bd g.x.s i0) (bd g.x.s j))] 46):=by
      have:=(((RW.out.setCell 0 (.int .i64 (g.x.aB+(bd g.x.s i0:Int)))).setCell 1 (.int .i64 (g.x.aB+(bd g.x.s j:Int)))).setCell 2 (.slice (some ⟨gb,0,none⟩) N2 N2)).setCell 3 (.string (g.x.s.extract (bd g.x.s i0) (bd g.x.s j)));show aq _ _ _ _
      simpa using this
     have K6:Hid (aa (fun i=>i=w.heap.size) w5 ((((w5.setCell ⟨w.heap.size,0,none⟩ (.int .i64 (g.x.aB+(bd g.x.s i0:Int)))).setCell ⟨w.heap.size,1,none⟩ (.int .i64 (g.x.aB+(bd g.x.s j:Int)))).setCell ⟨w.heap.size,2,none⟩ (.slice (some ⟨gb,0,none⟩) N2 N2)).setCell ⟨w.heap.size,3,none⟩ (.string (g.x.s.extract (bd g.x.s i0) (bd g.x.s j))))):=((((aa.refl (fun i=>i=w.heap.size) w5).setCell (p:=⟨w.heap.size,0,none⟩) (Or.inl rfl) _).setCell (p:=⟨w.heap.size,1,none⟩) (Or.inl rfl) _).setCell (p:=⟨w.heap.size,2,none⟩) (Or.inl rfl) _).setCell (p:=⟨w.heap.size,3,none⟩) (Or.inl rfl) _;generalize((((w5.setCell ⟨w.heap.size,0,none⟩ (.int .i64 (g.x.aB+(bd g.x.s i0:Int)))).setCell ⟨w.heap.size,1,none⟩ (.int .i64 (g.x.aB+(bd g.x.s j:Int)))).setCell ⟨w.heap.size,2,none⟩ (.slice (some ⟨gb,0,none⟩) N2 N2)).setCell ⟨w.heap.size,3,none⟩ (.string (g.x.s.extract (bd g.x.s i0) (bd g.x.s j))))=w6 at*;have z0:w6.cell? ⟨w.heap.size,0,none⟩=some (.int .i64 (g.x.aB+(bd g.x.s i0:Int))):=B6.out.cell 0;have z1:w6.cell? ⟨w.heap.size,1,none⟩=some (.int .i64 (g.x.aB+(bd g.x.s j:Int))):=B6.out.cell 1;have z2:w6.cell? ⟨w.heap.size,2,none⟩=some (.slice (some ⟨gb,0,none⟩) N2 N2):=B6.out.cell 2;have z3:w6.cell? ⟨w.heap.size,3,none⟩=some (.string (g.x.s.extract (bd g.x.s i0) (bd g.x.s j))):=B6.out.cell 3;refine Bj (v:=.tuple #[.agg #[.int .i64 (g.x.aB+(bd g.x.s i0:Int)),.int .i64 (g.x.aB+(bd g.x.s j:Int)),.slice (some ⟨gb,0,none⟩) N2 N2,.string (g.x.s.extract (bd g.x.s i0) (bd g.x.s j))],.bool true]) ?_ rfl ?_
     ·rw[results_cell_tmp rfl];simp only[Array.getD_eq_getD_getElem?,List.getElem?_toArray,D3,E6,Da];go_simp
     ·obtain⟨u7,wi,o5,gy⟩:=M5.out.out;unfold SI;rw[<-YO.out];exact⟨fun _=>⟨gb,rfl,by omega,M5.out.fE.kept K6.out (by omega)⟩,fun hx=>(by rw[Kr.out]at hx;cases hx),u7,wi,o5.wQ CI.out (K6.out.mono (fun i h=>by subst h;exact Ab _)),gy,M5.out.kept.bV K6.out (fun i hi e=>by omega)⟩
    ·rw[k1]at d0;have hN:=lE.out.2.1 k1;obtain⟨mn,dG⟩:∃mn:Nat,m.next=(mn:Int):=⟨m.next.toNat,by omega⟩
     rw[dG]at d4 hn
     have UR:i<(aF g.x.s).length:=by
      simp only[Cm,Az]at ht;exact ht.1
     have yC:mn<g.ms.length:=(by omega);have F:=afd wr g.x.s i UR aS O1.out.at_.rk.jK;obtain⟨pq,pQ⟩:∃pq,pq=(bd g.x.s (i+1):Int)-(bd g.x.s i:Int):=⟨_,rfl⟩
     rw[<-pQ]at F;have yp:(bd g.x.s i:Int)+pq=(bd g.x.s (i+1):Int):=(by omega);have abv:=iP g.x.s (i+1);have HN:=ab hn;have F:=ab F;clear hn ht zx lE wv dG hN pQ;go_wp2_with fail;refine(F.out).mono ?_;rintro e w5 ⟨rfl,k5⟩;have ax:=ab ((HM.out.iU k5).go (i':=i+1) (u':=mn) (by omega) UR yC HN.out);clear k5 F;go_wp2_with fail;go_roundg (((aF g.x.s).length-(i+1))*(g.ms.length+1)+mn)
     case measure=>exact Ed (Kh.out _ _ yC (Or.inl ⟨by omega,UR⟩)) xS.out.symm
     case rel=>exact⟨i+1,mn,gs,rfl,rfl,rfl,ax⟩
    ·cases er
    ·rw[k2]at d0;have hN:=lE.out.2.2.1 (by omega);obtain⟨mn,dG⟩:∃mn:Nat,m.next=(mn:Int):=⟨m.next.toNat,by omega⟩
     rw[dG]at d4 hn;have FT:mn<u:=(by omega);have ax:=ab (HM.out.go (i':=i) (u':=mn) (Ab _) hi (by omega) hn);clear hn he zx lE wv dG hN;go_wp2_with fail;go_roundg (((aF g.x.s).length-(i))*(g.ms.length+1)+mn)
     case measure=>exact Ed (Kh.out _ _ (by omega) (Or.inr ⟨rfl,FT⟩)) xS.out.symm
     case rel=>exact⟨i,mn,gs,rfl,rfl,rfl,ax⟩
    ·cases er
    ·rw[k3]at d0;have hN:=lE.out.2.2.1 (by omega);have hSl:=wv.out.2.1 k3;obtain⟨mn,dG⟩:∃mn:Nat,m.next=(mn:Int):=⟨m.next.toNat,by omega⟩
     obtain⟨sl,fM⟩:∃sl:Nat,m.slot=(sl:Int):=⟨m.slot.toNat,by omega⟩
     rw[dG]at d4 hn;rw[fM]at d3 hn;have FT:mn<u:=(by omega);have aqc:sl<N2:=by have:=YO.out;have:=Sm.out;omega
     have cT:=HM.out.len;have fgb:=HM.out.fE.frozen sl
     have cgb:wr.cell? ⟨gb,sl,none⟩=some (.int .i64 (gs.getD sl 0)):=by
      have:=HM.out.fE.cell sl;rw[this];unfold cH;simp[Af,Ae (show sl<gs.length by omega)]
     have ax:Hid (uR w (wr.setCell ⟨gb,sl,none⟩ (.int .i64 (g.x.aB+(bd g.x.s i:Int)))) g gb wf i mn (gs.set sl (g.x.aB+(bd g.x.s i:Int))) (some (j,jC)) N2):=by
      have k:aa (fun i=>i=gb) wr (wr.setCell ⟨gb,sl,none⟩ (.int .i64 (g.x.aB+(bd g.x.s i:Int)))):=(aa.refl (fun i=>i=gb) wr).setCell (p:=⟨gb,sl,none⟩) (Or.inl rfl) _;have dK:=HM.out.fE.setCell sl (.int .i64 (g.x.aB+(bd g.x.s i:Int)));rw[ajW]at dK;refine⟨hi,by omega,?_,⟨af8,wd1,O1.out.wQ CI.out (k.mono (fun i h=>by subst h;omega)),iA.out⟩,dK,by rw[Bk];exact cT,HM.out.kept.bV k (fun i hi e=>by omega),HM.out.box.kept k (by omega)⟩;have:=hn;rw[Ay]at this;exact this
     clear hn zx lE wv dG fM hN hSl cT;go_wp2_with fail;go_roundg (((aF g.x.s).length-(i))*(g.ms.length+1)+mn)
     case measure=>exact Ed (Kh.out _ _ (by omega) (Or.inr ⟨rfl,FT⟩)) xS.out.symm
     case rel=>exact⟨i,mn,gs.set sl (g.x.aB+(bd g.x.s i:Int)),rfl,rfl,rfl,ax⟩
    ·rw[k4]at d0;have hN:=lE.out.2.2.1 (by omega);obtain⟨mn,dG⟩:∃mn:Nat,m.next=(mn:Int):=⟨m.next.toNat,by omega⟩
     rw[dG]at d4 hn;have FT:mn<u:=(by omega);have F:=Tu HG.out O1.out (u:=mn) (by omega) hi iA.out;rw[M_ HG.out.ft g.x (show mn<g.ms.length by omega) hi gs,hn]at F;simp only[E8]at F;have F:=ab F;rw[<-ev]at hn;have HN:=ab hn;clear hn ev zx lE wv dG hN;go_wp2_with fail;refine(F.out).mono ?_;rintro e w5 ⟨rfl,u7,wi,o5,gy,k5⟩;have ax:Hid (uR w w5 g gb wf i mn gs (some (j,jC)) N2):=⟨hi,by omega,HN.out,⟨u7,wi,o5,gy⟩,HM.out.fE.kept k5 (by have:=CI.out;unfold OG.below at this;omega),HM.out.len,HM.out.kept.trans k5,HM.out.box.kept k5 (by have:=CI.out;unfold OG.below at this;omega)⟩;clear o5 gy k5 F;go_wp2_with fail;go_roundg (((aF g.x.s).length-(i))*(g.ms.length+1)+mn)
     case measure=>exact Ed (Kh.out _ _ (by omega) (Or.inr ⟨rfl,FT⟩)) xS.out.symm
     case rel=>exact⟨i,mn,gs,rfl,rfl,rfl,ax⟩
    ·rw[k4]at d0;have hN:=lE.out.2.2.1 (by omega);have ain:=lE.out.2.2.2 k4;obtain⟨mn,dG⟩:∃mn:Nat,m.next=(mn:Int):=⟨m.next.toNat,by omega⟩
     obtain⟨mo,fL⟩:∃mo:Nat,m.a_=(mo:Int):=⟨m.a_.toNat,by omega⟩
     rw[dG]at d4 hn;rw[fL]at d5 ho;have FT:mn<u:=(by omega);have abR:mo<u:=(by omega);have F:=Tu HG.out O1.out (u:=mn) (by omega) hi iA.out;rw[M_ HG.out.ft g.x (show mn<g.ms.length by omega) hi gs,hn]at F;simp only[Do]at F;have F:=ab F;have HN:=ab ho;clear hn ho zx lE wv dG fL hN ain;go_wp2_with fail;refine(F.out).mono ?_;rintro e w5 ⟨rfl,u7,wi,o5,gy,k5⟩;have ax:Hid (uR w w5 g gb wf i mo gs (some (j,jC)) N2):=⟨hi,by omega,HN.out,⟨u7,wi,o5,gy⟩,HM.out.fE.kept k5 (by have:=CI.out;unfold OG.below at this;omega),HM.out.len,HM.out.kept.trans k5,HM.out.box.kept k5 (by have:=CI.out;unfold OG.below at this;omega)⟩;have g5:w5.cell? ⟨g.mb,u*6+5,none⟩=some (.int .i64 (mo:Int)):=(k5.cell (p:=⟨g.mb,u*6+5,none⟩) O1.out.at_.rk.ic.lt (by have h1:=HG.out.Io.1;have h2:=HG.out.KO.2.1;show¬(g.mb=g.ob\/g.mb=g.WB);omega)).trans d5;clear o5 gy k5 F;go_wp2_with fail;go_roundg (((aF g.x.s).length-(i))*(g.ms.length+1)+mo)
     case measure=>exact Ed (Kh.out _ _ (by omega) (Or.inr ⟨rfl,abR⟩)) xS.out.symm
     case rel=>exact⟨i,mo,gs,rfl,rfl,rfl,ax⟩
structure jZ(X:ByteArray)(c:CX)(i0 i1:Nat):Prop where
 s:c.s=X.extract (bd X i0) (bd X i1)
 aB:c.aB=(bd X i0:Int)
 le:i0<=i1
 yH:i1<=(aF X).length
 ah:∀e b,eU e c.ah b=eU e ((aM X).ahead i0) b
 bh:c.op=false->∀e a,eU e a c.bh=eU e a ((aM X).gM i1)
theorem adW{s:ByteArray}(cQ:i<=j)(hj:j<=(aF s).length):aF (s.extract (bd s i) (bd s j))=((aF s).drop i|>.take (j-i)).map fun p=>(p.1-bd s i,p.2):=by
 have hm:=fY s cQ;have aS:(s.extract (bd s i) (bd s j)).size=bd s j-bd s i:=extract_size s _ _ (iP s j)
 have hN:j-i<=(s.extract (bd s i) (bd s j)).size:=by
  rw[aS]
  have:∀d,i+d<=j->bd s i+d<=bd s (i+d):=by
   intro d;induction d with
   |zero=>intro _;exact Ab _
   |succ d ih=>intro h;have:=ih (by omega);have:=(pE (s:=s) (i:=i+d) (by omega)).1;show bd s i+(d+1)<=bd s (i+d+1);omega
  have:=this (j-i) (by omega);rw[show i+(j-i)=j by omega]at this;omega
 unfold aF;have:=aem cQ hj (s.extract (bd s i) (bd s j)).size i hN (Ab _) cQ;rw[Fx]at this;exact this
theorem jZ.n(h:jZ X c i0 i1):c.n=i1-i0:=by
 unfold CX.n;have:=h.yH;rw[h.s,adW h.le h.yH];simp only[Co,D4,List.length_drop];omega
theorem jZ.get(h:jZ X c i0 i1)(hk:k<i1-i0):(aF c.s)[k]? =((aF X)[i0+k]?).map fun p=>(p.1-bd X i0,p.2):=by
 rw[h.s,adW h.le h.yH,Bv,Av hk,Dl]
theorem jZ.bu(h:jZ X c i0 i1)(hk:k<i1-i0):c.bu k=(aM X).bu (i0+k):=by
 unfold CX.bu TX.bu;show((List.map (·.2) (aF c.s))[k]?).getD (-1)=((List.map (·.2) (aF X))[i0+k]?).getD (-1)
 rw[Bv,Bv,h.get hk]
 cases(aF X)[i0+k]? <;>rfl
theorem jZ.bd(h:jZ X c i0 i1)(hk:k<=i1-i0):(bd c.s k:Int)=(bd X (i0+k):Int)-(bd X i0:Int):=by
 have FU:=fY X (show i0<=i0+k by omega);have hl:=h.le;have qz:=h.yH;by_cases aw:k<i1-i0
 ·have hg:=h.get aw;have hX:(aF X)[i0+k]? =some (aF X)[i0+k]:=Ae (by omega)
  have e1:Go.Proofs.YtpdnofhackjfdaaGreatDoor.bd c.s k=(aF X)[i0+k].1-Go.Proofs.YtpdnofhackjfdaaGreatDoor.bd X i0:=by
   unfold Go.Proofs.YtpdnofhackjfdaaGreatDoor.bd at hg⊢;rw[hg,hX];rfl
  have e2:Go.Proofs.YtpdnofhackjfdaaGreatDoor.bd X (i0+k)=(aF X)[i0+k].1:=zI (by omega);omega
 ·have e1:Go.Proofs.YtpdnofhackjfdaaGreatDoor.bd c.s k=c.s.size:=nf (by have:=h.n;unfold CX.n at this;omega);have e2:c.s.size=Go.Proofs.YtpdnofhackjfdaaGreatDoor.bd X i1-Go.Proofs.YtpdnofhackjfdaaGreatDoor.bd X i0:=by rw[h.s];exact extract_size X _ _ (iP X i1)
  have e3:i0+k=i1:=by omega
  rw[e1,e2,e3];have:=fY X h.le;omega
theorem jZ.aW(h:jZ X c i0 i1)(hk:k<=i1-i0):c.aW k=(aM X).aW (i0+k):=by
 have h1:=h.bd hk;have h2:=h.aB;unfold CX.aW;rw[h1,h2];show _=(0:Int)+_
 unfold aM;simp only;omega
theorem jZ.eo(h:jZ X c i0 i1)(hk:k<=i1-i0)(ho:(c.op&&decide (c.n<=k))=false)(e:Int):eU e (c.ahead k) (c.gM k)=eU e ((aM X).ahead (i0+k)) ((aM X).gM (i0+k)):=by
 have hl:=h.yH;have hn:=h.n
 have hb:∀a,eU e a (c.gM k)=eU e a ((aM X).gM (i0+k)):=fun a=>by
  by_cases aw:k<i1-i0
  ·have e1:c.gM k=c.bu k:=if_pos (by omega);have e2:(aM X).gM (i0+k)=(aM X).bu (i0+k):=if_pos (show i0+k<(aF X).length by omega);rw[e1,e2,h.bu aw]
  ·have dY:c.op=false:=by
    cases hc:c.op with
    |false=>rfl
    |true=>rw[hc]at ho;simp at ho;omega
   have e1:c.gM k=c.bh:=if_neg (by omega);have:=h.le;rw[e1,h.bh dY,show i0+k=i1 by omega]
 rw[hb];by_cases h0:k=0
 ·subst h0;exact h.ah e _
 ·have e1:c.ahead k=c.bu (k-1):=if_neg h0;have e2:(aM X).ahead (i0+k)=(aM X).bu (i0+k-1):=if_neg (by omega);rw[e1,e2,h.bu (by omega),show i0+k-1=i0+(k-1) by omega]
theorem adj{α:Type}{a b:Option α}{v:α}(h:a=some v):a.or b=some v:=by rw[h];rfl
def Hc(i0:Nat)(r:iH):iH:=r.map fun v=>(i0+v.1,v.2)
structure SP(X:ByteArray)(c:CX)(i0 i1:Nat)(rc rX:iH):Prop where
 no_:c.op=true->rc=none->rX=none
 so_:c.op=true->∀j gs,rc=some (j,gs)->j<c.n->rX=some (i0+j,gs)
 in_:c.op=false->∀j gs,rX=some (j,gs)->j<=i1->rc=some (j-i0,gs)
 off:c.op=false->rX=none->rc=none
theorem WW{ms:List MS}(hg:eR ms)(h:jZ X c i0 i1)(hu:u<ms.length)(hk:k<=c.n)(gs:List Int):SP X c i0 i1 (cW ms c u k gs) (cW ms (aM X) u (i0+k) gs):=by
 have hn:=h.n;have hl:=h.le;have qz:=h.yH;refine Pg hg c.n (Q:=fun u k=>∀gs,SP X c i0 i1 (cW ms c u k gs) (cW ms (aM X) u (i0+k) gs)) (fun u k m hk hm Gt Gu gs=>?_) _ k (Ab _) hk u hu gs;have UZ:i0+k<=(aM X).n:=by show _<=(aF X).length;omega
 have hXt:((aM X).op&&decide ((aM X).n<=i0+k))=false:=rfl
 cases ht:(c.op&&decide (c.n<=k))with
 |true=>
  simp only[Cm,Az]at ht;rw[yX ht.1 ht.2];exact⟨fun _ h=>(by cases h),fun _ j dp h hj=>(by simp only[A9,Ck]at h;omega),fun h=>(by rw[ht.1]at h;cases h),fun h=>(by rw[ht.1]at h;cases h)⟩
 |false=>
  obtain⟨⟨k0,k4⟩,g1,g2,g3⟩:=hg u m hm;have hu:=(Ah.1 hm).1;obtain⟨a0,a1,a2,a3,a4⟩:=oE hg c hk hm ht gs;obtain⟨b0,b1,b2,b3,b4⟩:=oE hg (aM X) UZ hm hXt gs
  have T:∀v:Int,0<=v->v<u->∀gs,SP X c i0 i1 (cW ms c v k gs) (cW ms (aM X) v (i0+k) gs):=fun v h0 hv gs=>by
   obtain⟨q,rfl⟩:=Au h0;exact Gt q (by omega) gs
  by_cases e0:m.kind=0
  ·rw[a0 e0,b0 e0];refine⟨fun _ h=>(by cases h),fun _ j dp h hj=>?_,fun _ j dp h hj=>?_,fun _ h=>(by cases h)⟩
   ·simp only[A9,Ck]at h⊢;exact⟨by omega,h.2⟩
   ·simp only[A9,Ck]at h⊢;exact⟨by omega,h.2⟩
  ·by_cases e1:m.kind=1
   ·rw[a1 e1,b1 e1];have o9:=g1 e1;obtain⟨q,hq⟩:=Au o9.1;by_cases aw:k<c.n
    ·have hX:i0+k<(aM X).n:=by show _<(aF X).length;omega
     rw[<-h.bu (by omega)];have d1:decide (k<c.n)=true:=Cx aw;have d2:decide (i0+k<(aM X).n)=true:=Cx hX;rw[d1,d2,E0];by_cases ue:fP m.sp m.fo m.nt (c.bu k)=true
     ·rw[if_pos ue,if_pos ue,hq];have:=Gu q (by omega) aw gs;rw[<-Dn]at this;exact this
     ·rw[if_neg ue,if_neg ue];exact⟨fun _ _=>rfl,fun _ j dp h _=>(by cases h),fun _ j dp h _=>(by cases h),fun _ _=>rfl⟩
    ·have d1:decide (k<c.n)=false:=Bd aw;rw[d1,Eo];simp only[Aq,if_false]
     have dY:c.op=false:=by
      cases hc:c.op with
      |false=>rfl
      |true=>rw[hc]at ht;simp at ht;omega
     refine⟨fun h=>(by rw[dY]at h;cases h),fun h=>(by rw[dY]at h;cases h),fun _ j dp hr hj=>?_,fun _ _=>rfl⟩;exfalso;split at hr
     ·rename_i hc
      simp only[Cm,Az]at hc;rw[hq]at hr
      have rK:i0+k+1<=j:=by
       have hx:i0+k+1<=(aM X).n:=hc.1;have:=BZ hg (aM X) (show q<ms.length by omega) hx gs;exact(this _ _ hr).1
      omega
     ·cases hr
   ·have jS:=g2 (by omega);by_cases e2:m.kind=2
    ·rw[a2 e2,b2 e2,<-h.eo (by omega) ht];by_cases hh:eU m.eo (c.ahead k) (c.gM k)=true
     ·rw[if_pos hh,if_pos hh];exact T _ jS.1 jS.2 gs
     ·rw[if_neg hh,if_neg hh];exact⟨fun _ _=>rfl,fun _ j dp h _=>(by cases h),fun _ j dp h _=>(by cases h),fun _ _=>rfl⟩
    ·by_cases e3:m.kind=3
     ·rw[a3 e3,b3 e3,<-h.aW (by omega)];exact T _ jS.1 jS.2 _
     ·have e4:m.kind=4:=(by omega);have ho:=g3 e4;rw[a4 e4,b4 e4];have A:=T _ jS.1 jS.2 gs;have B:=T _ ho.1 ho.2 gs;generalize cW ms c m.next k gs=ra at A⊢
      generalize cW ms (aM X) m.next (i0+k) gs=xa at A⊢
      generalize cW ms c m.a_ k gs=rb at B⊢
      generalize cW ms (aM X) m.a_ (i0+k) gs=xb at B⊢
      refine⟨fun dY hr=>?_,fun dY j dp hr hj=>?_,fun dY j dp hr hj=>?_,fun dY hr=>?_⟩
      ·cases ra with
       |some v=>cases hr
       |none=>rw[A.no_ dY rfl];exact B.no_ dY hr
      ·cases ra with
       |some v=>rw[adj (A.so_ dY j dp hr hj)]
       |none=>rw[A.no_ dY rfl];exact B.so_ dY j dp hr hj
      ·cases xa with
       |some v=>rw[adj (A.in_ dY j dp hr hj)]
       |none=>rw[A.off dY rfl];exact B.in_ dY j dp hr hj
      ·cases xa with
       |some v=>cases hr
       |none=>rw[A.off dY rfl];exact B.off dY hr
end Go.Proofs.YtpdnofhackjfdaaGreatDoor
