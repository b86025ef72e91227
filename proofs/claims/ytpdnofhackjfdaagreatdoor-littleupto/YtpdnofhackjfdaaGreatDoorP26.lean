/- Package whole's  -/
import Derived.Test.YtpdnofhackjfdaaGreatDoorP25
set_option linter.all false
set_option maxRecDepth 100000
set_option maxHeartbeats 8000000
namespace Go.Proofs.YtpdnofhackjfdaaGreatDoor
open Go.Proofs.Tryz
open Go.RowKit Go.Maps
variable {X:ByteArray} {c:CX} {res:ik} {gs:List Int} {wf wr:List Nat} {N2 b aj gb i i0 i1 j k u:Nat} {g:OG} {w w':World}
def OG.below(g:OG)(b:Nat):Prop:=(g.ob<b/\g.mb<b/\g.hi<=b)/\(0<b/\1<b)/\(g.cN<b/\g.fh<b/\g.rh<b)/\g.FB<b/\g.WB<b
theorem il.below(h:il w g aj wf wr):g.below w.heap.size:=⟨⟨h.rk.o.lt,h.rk.iw.lt,h.rk.le⟩,h.rk.j8.lt,h.lt,h.bf.lt,h.bw.lt⟩
theorem il.wP(h:il w g aj wf wr)(hb:g.below b)(k:aa (fun i=>b<=i) w w'):il w' g aj wf wr where
 rk:=h.rk.kept k (by have:=hb.1;omega) (by have:=hb.1;omega) (fun i _ h2=>by have:=hb.1;omega) (by have:=hb.2.1;omega) (by have:=hb.2.1;omega)
 bg i hi:=(k.cell (p:=⟨g.cN,i,none⟩) h.lt.1 (by have:=hb.2.2.1;show¬b<=g.cN;omega)).trans (h.bg i hi)
 fh i hi:=(k.cell (p:=⟨g.fh,i,none⟩) h.lt.2.1 (by have:=hb.2.2.1;show¬b<=g.fh;omega)).trans (h.fh i hi)
 rh i hi:=(k.cell (p:=⟨g.rh,i,none⟩) h.lt.2.2 (by have:=hb.2.2.1;show¬b<=g.rh;omega)).trans (h.rh i hi)
 lt:=by have:=k.size;have:=h.lt;omega
 bf:=h.bf.kept k (by have:=hb.2.2.2;omega)
 bw:=h.bw.kept k (by have:=hb.2.2.2;omega)
 fl:=h.fl
 wl:=h.wl
theorem oV.wP(h:oV w g aj wf wr)(hb:g.below b)(k:aa (fun i=>b<=i) w w'):oV w' g aj wf wr:=⟨h.at_.wP hb k,h.lt,h.LF,h.rows⟩
theorem ae8(w:World)(s:ByteArray)(i:Nat)(hi:i<(aF s).length)(hs:s.size<=10000000)(hT:jf w):Calls prog 62 #[.string s,.int .i64 (bd s i:Int)] w fun e w'=>e=.returned (.int .i64 ((bd s (i+1):Int)-(bd s i:Int)))/\aa af w w':=by
 refine(ae_ s (bd s i) w (iQ s i) (by omega) hT).mono ?_;rintro e w' ⟨rfl,hk⟩;refine⟨?_,hk⟩;have h1:=u2 hi;have h2:=sA hi;have h3:=pJ hi;rw[TJ s _ h1];congr 2;omega
theorem akc(gs:List Int)(k:Nat)(v:Int):(cY gs).toArray.setIfInBounds k (.int .i64 v)=(cY (gs.set k v)).toArray:=by
 unfold cY;simp[Fk]
structure uP(w wr:World)(g:OG)(gb:Nat)(wf:List Nat)(i u:Nat)(gs:List Int)(res:ik)(N2:Nat):Prop where
 xn:i<=(aF g.x.s).length
 ae4:u<g.ms.length
 iC:cZ g.ms g.x (u:Int) i gs=res
 o:∃aj wd,oV wr g aj wf wd/\g.aD.getD aj 0<=i
 iS:aq wr gb (cY gs).toArray 3
 len:gs.length=N2
 kept:aa (fun i=>i=g.ob\/i=g.WB) w wr
 box:aq wr w.heap.size #[.int .i64 0,.int .i64 0,.slice none 0 0,.string ⟨#[]⟩] 46
theorem uP.jZ{wr:World}(h:uP w wr g gb wf i u gs res N2)(k:aa af wr w'):uP w w' g gb wf i u gs res N2:=by
 obtain⟨aj,wd,o1,o2⟩:=h.o;exact⟨h.xn,h.ae4,h.iC,⟨aj,wd,o1.kept k,o2⟩,h.iS.kept k (fun h=>h),h.len,h.kept.trans (k.mono (fun _ h=>h.elim)),h.box.kept k (fun h=>h)⟩
theorem uP.go{wr:World}{i' u':Nat}(h:uP w wr g gb wf i u gs res N2)(hi:i<=i')(hi':i'<=(aF g.x.s).length)(hu:u'<g.ms.length)(hr:cZ g.ms g.x (u':Int) i' gs=res):uP w wr g gb wf i' u' gs res N2:=by
 obtain⟨aj,wd,o1,o2⟩:=h.o;exact⟨hi',hu,hr,⟨aj,wd,o1,by omega⟩,h.iS,h.len,h.kept,h.box⟩
def SX(w:World)(g:OG)(wf:List Nat)(i0 j G:Nat)(jH:List Int)(e:Ending)(w':World):Prop:=((g.x.op&&decide (g.x.n<=j))=false->∃gb,e=.returned (.tuple #[.agg #[.int .i64 (g.x.aY i0),.int .i64 (g.x.aY j),.slice (some ⟨gb,0,none⟩) (2*G) (2*G),.string (g.x.s.extract (bd g.x.s i0) (bd g.x.s j))],.bool true])/\w.heap.size<=gb/\aq w' gb (cY jH).toArray 3)/\((g.x.op&&decide (g.x.n<=j))=true->e=.returned (.tuple #[.agg #[.int .i64 0,.int .i64 0,.slice none 0 0,.string ⟨#[]⟩],.bool false]))/\∃Li p_,oV w' g Li wf p_/\g.aD.getD Li 0<=j/\aa (fun i=>i=g.ob\/i=g.WB) w w'
theorem acI{wd:List Nat}(hg:g.Ok)(hO:oV w g aj wf wd){u0 G:Nat}{jH:List Int}(cS:i0<=(aF g.x.s).length)(nG:g.aD.getD aj 0<=i0)(bC:g.st=(u0:Int))(uh:u0<g.ms.length)(hG:g.G=(G:Int))(Ps:G<=100000)(hR:cZ g.ms g.x (u0:Int) i0 (List.replicate (2*G) (-1))=some (j,jH)):
 Calls prog 63 #[.pointer (some ⟨g.ob,0,none⟩),.int .i64 (bd g.x.s i0:Int)] w fun e w'=>SX w g wf i0 j G jH e w':=by
 have HG:=ab hg;have HO:=ab hO;have DB:=ab nG;have HR:=ab hR;have lF:=ab bC;have HFW:=ab (Hp hg.fL g.x uh cS _ j jH hR);have DC:=ab hO.at_.below;have aP:=hg.size;have dw:=hg.bJ;have Sz:=ab hG;have c2:w.cell? ⟨g.ob,2,none⟩=some (.int .i64 (G:Int)):=by rw[<-hG];exact hO.at_.rk.o.cell 2
 have kx:=hO.at_.rk.o.lt;obtain⟨N2,wS⟩:∃N2,N2=2*G:=⟨_,rfl⟩
 have hmul:2*(G:Int)=(N2:Int):=by omega
 rw[<-wS]at HR;have YP:=ab wS;have apQ:N2<=200000:=by omega
 clear hg hO nG hR bC hG wS;go_in;go_wp2_with fail;have KA:Hid (aa af w ((w.alloc (.cells #[.int .i64 0,.int .i64 0,.slice none 0 0,.string ⟨#[]⟩] 46)).alloc (.cells #[.int .i64 (-1)] 3))):=((aa.refl af w).alloc _).alloc _;have BX:Hid (aq ((w.alloc (.cells #[.int .i64 0,.int .i64 0,.slice none 0 0,.string ⟨#[]⟩] 46)).alloc (.cells #[.int .i64 (-1)] 3)) w.heap.size #[.int .i64 0,.int .i64 0,.slice none 0 0,.string ⟨#[]⟩] 46):=(aq.new w _ _).alloc _
 have cm:((w.alloc (.cells #[.int .i64 0,.int .i64 0,.slice none 0 0,.string ⟨#[]⟩] 46)).alloc (.cells #[.int .i64 (-1)] 3)).cell? ⟨w.heap.size+1,0,none⟩=some (.int .i64 (-1)):=by
  have:=(aq.new (w.alloc (.cells #[.int .i64 0,.int .i64 0,.slice none 0 0,.string ⟨#[]⟩] 46)) #[.int .i64 (-1)] 3).cell 0;rw[fO]at this;exact this
 have VB:((w.alloc (.cells #[.int .i64 0,.int .i64 0,.slice none 0 0,.string ⟨#[]⟩] 46)).alloc (.cells #[.int .i64 (-1)] 3)).heap.size=w.heap.size+1+1:=by simp
 have F:=ab (anB ((w.alloc (.cells #[.int .i64 0,.int .i64 0,.slice none 0 0,.string ⟨#[]⟩] 46)).alloc (.cells #[.int .i64 (-1)] 3)) (w.heap.size+1) N2 cm (by omega));refine(F.o).mono ?_;rintro e w2 ⟨gb,kT,rfl,ow,k2⟩;rw[VB]at kT
 have du:Hid (uP w w2 g gb wf i0 u0 (List.replicate N2 (-1)) (some (j,jH)) N2):=by
  have k:aa af w w2:=KA.o.trans k2;refine⟨cS,uh,HR.o,⟨aj,wd,HO.o.kept k,DB.o⟩,?_,by simp,k.mono (fun _ h=>h.elim),BX.o.kept k2 (fun h=>h)⟩;have e:cY (List.replicate N2 (-1))=List.replicate N2 (.int .i64 (-1)):=by unfold cY;simp
  rw[e];exact ow
 have O2:=ab (HO.o.kept (KA.o.trans k2));have e4:w2.cell? ⟨g.ob,4,none⟩=some (.int .i64 g.x.aB):=O2.o.at_.rk.o.cell 4;have e3:w2.cell? ⟨g.ob,3,none⟩=some (.string g.x.s):=O2.o.at_.rk.o.cell 3;have e1:w2.cell? ⟨g.ob,1,none⟩=some (.int .i64 (u0:Int)):=by rw[<-lF.o];exact O2.o.at_.rk.o.cell 1
 clear ow k2 F cm KA BX VB c2 HO O2 HR DB;go_wp2_with fail;go_big_quiet (fail);have sD:(w2.drewN nq).cell? ⟨g.ob,1,none⟩=some (.int .i64 (u0:Int)):=e1;have Zu:=ab (du.o.jZ ((aa.refl af w2).drewN nq));generalize w2.drewN nq=w3 at*;clear du e1 e3 e4;go_wp2_with fail;go_big_quiet (fail);have Zv:=ab (Zu.o.jZ ((aa.refl af w3).drewN nq));generalize w3.drewN nq=w4 at*;clear Zu sD;go_wp2_with fail;go_loopg [9,10] (((aF g.x.s).length-i0)*(g.ms.length+1)+u0) (fun kk v9 v10 wr=>∃(i u:Nat) (gs:List Int),v9=.int .i64 (bd g.x.s i:Int)/\v10=.int .i64 (u:Int)/\kk=((aF g.x.s).length-i)*(g.ms.length+1)+u/\Hid (uP w wr g gb wf i u gs (some (j,jH)) N2))
 case atStart=>exact⟨i0,u0,_,rfl,rfl,rfl,Zv⟩
 case round=>
  obtain⟨i,u,gs,rfl,rfl,eZ,HM⟩:=hrel;clear Zv;have hu:=HM.o.ae4;have hi:=HM.o.xn;obtain⟨af6,wd1,o1,o2⟩:=HM.o.o;have O1:=ab o1;have ix:=ab o2;have e7:wr.cell? ⟨g.ob,7,none⟩=some (.bool g.x.op):=o1.at_.rk.o.cell 7;have e0:wr.cell? ⟨g.ob,0,none⟩=some (.slice (some ⟨g.mb,0,none⟩) g.ms.length g.c):=o1.at_.rk.o.cell 0;obtain⟨q,⟨sV,qF⟩,yC,mu⟩:=o1.at_.rk.iw.at hu;obtain⟨d0,d1,d2,d3,d4,d5⟩:=mu wr o1.at_.rk.iw;have iU:=o1.at_.rk.we u sV hu;rw[qF]at iU;have zB:=ab fun ht=>anL HG.o.fL g.x hi (Ae hu) ht HM.o.iC
  have lE:=ab (HG.o.fL u _ (Ae hu));have wA:=ab (HG.o.q _ (A5 hu));generalize hm:g.ms[u]=m at*;have ek:=iU.k;have esl:=iU.sl;have zR:=iU.nx;have zS:=iU.ot;clear hm mu qF sV yC iU o1 o2;obtain⟨qk,bS,cd,bT,bI,fi,CO,CP⟩:=q;simp only at d0 d1 d2 d3 d4 d5 ek esl zR zS;subst ek esl zR zS;have apV:=iQ g.x.s i
  have abL:∀(i' u':Nat),u'<g.ms.length->(i<i'/\i'<=(aF g.x.s).length\/i'=i/\u'<u)->((aF g.x.s).length-i')*(g.ms.length+1)+u'<((aF g.x.s).length-i)*(g.ms.length+1)+u:=by
   intro i' u' h1 h2;rcases h2 with⟨h2,h3⟩|⟨rfl,h2⟩
   ·have:=Bt (g.ms.length+1) (show(aF g.x.s).length-i'+1<=(aF g.x.s).length-i by omega);rw[Cs]at this;omega
   ·omega
  have Kw:=ab abL;have xR:=ab eZ;clear abL eZ;have I1:=HG.o.aB
  cases pQ:(g.x.op&&decide (g.x.n<=i))with
  |true=>
   have eh:g.x.op=true/\g.x.n<=i:=(by simpa using pQ);have hr:=HM.o.iC;rw[yX eh.1 eh.2]at hr;obtain⟨rfl,rfl⟩:i=j/\gs=jH:=by cases hr;exact⟨rfl,rfl⟩
   have FP:bd g.x.s i=g.x.s.size:=mP eh.2;have lQ:¬(bd g.x.s i:Int)<(g.x.s.size:Int):=(by omega);rw[eh.1]at e7;have Ou:=ab eh;clear hr eh pQ zB lE wA;have bx:=HM.o.box;have x0:wr.cell? ⟨w.heap.size,0,none⟩=some (.int .i64 0):=bx.cell 0;have x1:wr.cell? ⟨w.heap.size,1,none⟩=some (.int .i64 0):=bx.cell 1;have x2:wr.cell? ⟨w.heap.size,2,none⟩=some (.slice none 0 0):=bx.cell 2;have x3:wr.cell? ⟨w.heap.size,3,none⟩=some (.string ⟨#[]⟩):=bx.cell 3;have y0:=bx.frozen 0;have y1:=bx.frozen 1;have y2:=bx.frozen 2;have y3:=bx.frozen 3;have Sc:=ab bx;clear bx;go_wp2_with fail
   have B6:Hid (aq ((((wr.setCell ⟨w.heap.size,0,none⟩ (.int .i64 0)).setCell ⟨w.heap.size,1,none⟩ (.int .i64 0)).setCell ⟨w.heap.size,2,none⟩ (.slice none 0 0)).setCell ⟨w.heap.size,3,none⟩ (.string ⟨#[]⟩)) w.heap.size #[.int .i64 0,.int .i64 0,.slice none 0 0,.string ⟨#[]⟩] 46):=by
    have:=(((Sc.o.setCell 0 (.int .i64 0)).setCell 1 (.int .i64 0)).setCell 2 (.slice none 0 0)).setCell 3 (.string ⟨#[]⟩);show aq _ _ _ _
    simpa using this
   have K6:Hid (aa (fun i=>i=w.heap.size) wr ((((wr.setCell ⟨w.heap.size,0,none⟩ (.int .i64 0)).setCell ⟨w.heap.size,1,none⟩ (.int .i64 0)).setCell ⟨w.heap.size,2,none⟩ (.slice none 0 0)).setCell ⟨w.heap.size,3,none⟩ (.string ⟨#[]⟩))):=((((aa.refl (fun i=>i=w.heap.size) wr).setCell (p:=⟨w.heap.size,0,none⟩) (Or.inl rfl) _).setCell (p:=⟨w.heap.size,1,none⟩) (Or.inl rfl) _).setCell (p:=⟨w.heap.size,2,none⟩) (Or.inl rfl) _).setCell (p:=⟨w.heap.size,3,none⟩) (Or.inl rfl) _;generalize((((wr.setCell ⟨w.heap.size,0,none⟩ (.int .i64 0)).setCell ⟨w.heap.size,1,none⟩ (.int .i64 0)).setCell ⟨w.heap.size,2,none⟩ (.slice none 0 0)).setCell ⟨w.heap.size,3,none⟩ (.string ⟨#[]⟩))=w6 at*;have z0:w6.cell? ⟨w.heap.size,0,none⟩=some (.int .i64 0):=B6.o.cell 0;have z1:w6.cell? ⟨w.heap.size,1,none⟩=some (.int .i64 0):=B6.o.cell 1;have z2:w6.cell? ⟨w.heap.size,2,none⟩=some (.slice none 0 0):=B6.o.cell 2;have z3:w6.cell? ⟨w.heap.size,3,none⟩=some (.string ⟨#[]⟩):=B6.o.cell 3;refine Bi (v:=.tuple #[.agg #[.int .i64 0,.int .i64 0,.slice none 0 0,.string ⟨#[]⟩],.bool false]) ?_ rfl ?_
   ·rw[results_cell_tmp rfl];simp only[Array.getD_eq_getD_getElem?,List.getElem?_toArray,Ea,Fb,Dr];go_simp
   ·obtain⟨u7,wk,o5,gx⟩:=HM.o.o;have qI:(g.x.op&&decide (g.x.n<=i))=true:=by rw[Ou.o.1,Cz Ou.o.2];rfl
    unfold SX;exact⟨fun hx=>(by rw[qI]at hx;cases hx),fun _=>rfl,u7,wk,o5.wP DC.o (K6.o.mono (fun i h=>by subst h;exact Ab _)),gx,HM.o.kept.bZ K6.o (fun i hi e=>by omega)⟩
  |false=>
   have abK:g.x.op=true->(bd g.x.s i:Int)<(g.x.s.size:Int):=fun eh=>by
    rw[eh,D9,A7]at pQ;have:=u2 (s:=g.x.s) (i:=i) (show i<(aF g.x.s).length by unfold CX.n at pQ;omega);omega
   have Om:=ab abK;clear abK
   cases eh:g.x.op
   all_goals rw[eh]at e7
   case' true=>have aw:=Om.o eh
   all_goals
    clear Om;rcases zB.o pQ with⟨k0,er⟩|⟨k1,ht,hn⟩|⟨k1,ht,er⟩|⟨k2,he,hn⟩|⟨k2,he,er⟩|⟨k3,hn⟩|⟨k4,v,ev,hn⟩|⟨k4,hn,ho⟩
    ·obtain⟨rfl,rfl⟩:j=i/\jH=gs:=by cases er;exact⟨rfl,rfl⟩
     have KM:=ab pQ;rw[k0]at d0;have bP:=HFW.o;have xc:=fR g.x.s bP.1;obtain⟨mn,dJ⟩:∃mn,m.next=mn:=⟨_,rfl⟩
     have F:=(ab fun(W:World)=>anS (g.x.s.extract (bd g.x.s i0) (bd g.x.s j)) W (by rw[extract_size g.x.s _ _ (iQ g.x.s j)];omega));clear bP zB lE wA er;go_wp2_with fail;refine(F.o _).mono ?_;rintro e w5 ⟨rfl,k5⟩;have bx:=HM.o.box.kept k5 (fun h=>h);have x0:w5.cell? ⟨w.heap.size,0,none⟩=some (.int .i64 0):=bx.cell 0;have x1:w5.cell? ⟨w.heap.size,1,none⟩=some (.int .i64 0):=bx.cell 1;have x2:w5.cell? ⟨w.heap.size,2,none⟩=some (.slice none 0 0):=bx.cell 2;have x3:w5.cell? ⟨w.heap.size,3,none⟩=some (.string ⟨#[]⟩):=bx.cell 3;have y0:=bx.frozen 0;have y1:=bx.frozen 1;have y2:=bx.frozen 2;have y3:=bx.frozen 3;have Sc:=ab bx;have M5:=ab (HM.o.jZ k5);clear k5 bx F;go_wp2_with fail
     have B6:Hid (aq ((((w5.setCell ⟨w.heap.size,0,none⟩ (.int .i64 (g.x.aB+(bd g.x.s i0:Int)))).setCell ⟨w.heap.size,1,none⟩ (.int .i64 (g.x.aB+(bd g.x.s j:Int)))).setCell ⟨w.heap.size,2,none⟩ (.slice (some ⟨gb,0,none⟩) N2 N2)).setCell ⟨w.heap.size,3,none⟩ (.string (g.x.s.extract (bd g.x.s i0) (bd g.x.s j)))) w.heap.size #[.int .i64 (g.x.aB+(bd g.x.s i0:Int)),.int .i64 (g.x.aB+(bd g.x.s j:Int)),.slice (some ⟨gb,0,none⟩) N2 N2,.string (g.x.s.extract (bd g.x.s i0) (bd g.x.s j))] 46):=by
      have:=(((Sc.o.setCell 0 (.int .i64 (g.x.aB+(bd g.x.s i0:Int)))).setCell 1 (.int .i64 (g.x.aB+(bd g.x.s j:Int)))).setCell 2 (.slice (some ⟨gb,0,none⟩) N2 N2)).setCell 3 (.string (g.x.s.extract (bd g.x.s i0) (bd g.x.s j)));show aq _ _ _ _
      simpa using this
     have K6:Hid (aa (fun i=>i=w.heap.size) w5 ((((w5.setCell ⟨w.heap.size,0,none⟩ (.int .i64 (g.x.aB+(bd g.x.s i0:Int)))).setCell ⟨w.heap.size,1,none⟩ (.int .i64 (g.x.aB+(bd g.x.s j:Int)))).setCell ⟨w.heap.size,2,none⟩ (.slice (some ⟨gb,0,none⟩) N2 N2)).setCell ⟨w.heap.size,3,none⟩ (.string (g.x.s.extract (bd g.x.s i0) (bd g.x.s j))))):=((((aa.refl (fun i=>i=w.heap.size) w5).setCell (p:=⟨w.heap.size,0,none⟩) (Or.inl rfl) _).setCell (p:=⟨w.heap.size,1,none⟩) (Or.inl rfl) _).setCell (p:=⟨w.heap.size,2,none⟩) (Or.inl rfl) _).setCell (p:=⟨w.heap.size,3,none⟩) (Or.inl rfl) _;generalize((((w5.setCell ⟨w.heap.size,0,none⟩ (.int .i64 (g.x.aB+(bd g.x.s i0:Int)))).setCell ⟨w.heap.size,1,none⟩ (.int .i64 (g.x.aB+(bd g.x.s j:Int)))).setCell ⟨w.heap.size,2,none⟩ (.slice (some ⟨gb,0,none⟩) N2 N2)).setCell ⟨w.heap.size,3,none⟩ (.string (g.x.s.extract (bd g.x.s i0) (bd g.x.s j))))=w6 at*;have z0:w6.cell? ⟨w.heap.size,0,none⟩=some (.int .i64 (g.x.aB+(bd g.x.s i0:Int))):=B6.o.cell 0;have z1:w6.cell? ⟨w.heap.size,1,none⟩=some (.int .i64 (g.x.aB+(bd g.x.s j:Int))):=B6.o.cell 1;have z2:w6.cell? ⟨w.heap.size,2,none⟩=some (.slice (some ⟨gb,0,none⟩) N2 N2):=B6.o.cell 2;have z3:w6.cell? ⟨w.heap.size,3,none⟩=some (.string (g.x.s.extract (bd g.x.s i0) (bd g.x.s j))):=B6.o.cell 3;refine Bi (v:=.tuple #[.agg #[.int .i64 (g.x.aB+(bd g.x.s i0:Int)),.int .i64 (g.x.aB+(bd g.x.s j:Int)),.slice (some ⟨gb,0,none⟩) N2 N2,.string (g.x.s.extract (bd g.x.s i0) (bd g.x.s j))],.bool true]) ?_ rfl ?_
     ·rw[results_cell_tmp rfl];simp only[Array.getD_eq_getD_getElem?,List.getElem?_toArray,Ea,Fb,Dr];go_simp
     ·obtain⟨u7,wk,o5,gx⟩:=M5.o.o;unfold SX;rw[<-YP.o];exact⟨fun _=>⟨gb,rfl,by omega,M5.o.iS.kept K6.o (by omega)⟩,fun hx=>(by rw[KM.o]at hx;cases hx),u7,wk,o5.wP DC.o (K6.o.mono (fun i h=>by subst h;exact Ab _)),gx,M5.o.kept.bZ K6.o (fun i hi e=>by omega)⟩
    ·rw[k1]at d0;have hN:=lE.o.2.1 k1;obtain⟨mn,dJ⟩:∃mn:Nat,m.next=(mn:Int):=⟨m.next.toNat,by omega⟩
     rw[dJ]at d4 hn
     have U6:i<(aF g.x.s).length:=by
      simp only[Co,Az]at ht;exact ht.1
     have yA:mn<g.ms.length:=(by omega);have F:=ae8 wr g.x.s i U6 aP O1.o.at_.rk.j8;obtain⟨pC,pT⟩:∃pC,pC=(bd g.x.s (i+1):Int)-(bd g.x.s i:Int):=⟨_,rfl⟩
     rw[<-pT]at F;have yn:(bd g.x.s i:Int)+pC=(bd g.x.s (i+1):Int):=(by omega);have abq:=iQ g.x.s (i+1);have HN:=ab hn;have F:=ab F;clear hn ht zB lE wA dJ hN pT;go_wp2_with fail;refine(F.o).mono ?_;rintro e w5 ⟨rfl,k5⟩;have ax:=ab ((HM.o.jZ k5).go (i':=i+1) (u':=mn) (by omega) U6 yA HN.o);clear k5 F;go_wp2_with fail;go_roundg (((aF g.x.s).length-(i+1))*(g.ms.length+1)+mn)
     case measure=>exact Ej (Kw.o _ _ yA (Or.inl ⟨by omega,U6⟩)) xR.o.symm
     case rel=>exact⟨i+1,mn,gs,rfl,rfl,rfl,ax⟩
    ·cases er
    ·rw[k2]at d0;have hN:=lE.o.2.2.1 (by omega);obtain⟨mn,dJ⟩:∃mn:Nat,m.next=(mn:Int):=⟨m.next.toNat,by omega⟩
     rw[dJ]at d4 hn;have Gx:mn<u:=(by omega);have ax:=ab (HM.o.go (i':=i) (u':=mn) (Ab _) hi (by omega) hn);clear hn he zB lE wA dJ hN;go_wp2_with fail;go_roundg (((aF g.x.s).length-(i))*(g.ms.length+1)+mn)
     case measure=>exact Ej (Kw.o _ _ (by omega) (Or.inr ⟨rfl,Gx⟩)) xR.o.symm
     case rel=>exact⟨i,mn,gs,rfl,rfl,rfl,ax⟩
    ·cases er
    ·rw[k3]at d0;have hN:=lE.o.2.2.1 (by omega);have hSl:=wA.o.2.1 k3;obtain⟨mn,dJ⟩:∃mn:Nat,m.next=(mn:Int):=⟨m.next.toNat,by omega⟩
     obtain⟨sl,ib⟩:∃sl:Nat,m.slot=(sl:Int):=⟨m.slot.toNat,by omega⟩
     rw[dJ]at d4 hn;rw[ib]at d3 hn;have Gx:mn<u:=(by omega);have aqG:sl<N2:=by have:=YP.o;have:=Sz.o;omega
     have cT:=HM.o.len;have fgb:=HM.o.iS.frozen sl
     have cgb:wr.cell? ⟨gb,sl,none⟩=some (.int .i64 (gs.getD sl 0)):=by
      have:=HM.o.iS.cell sl;rw[this];unfold cY;simp[Af,Ae (show sl<gs.length by omega)]
     have ax:Hid (uP w (wr.setCell ⟨gb,sl,none⟩ (.int .i64 (g.x.aB+(bd g.x.s i:Int)))) g gb wf i mn (gs.set sl (g.x.aB+(bd g.x.s i:Int))) (some (j,jH)) N2):=by
      have k:aa (fun i=>i=gb) wr (wr.setCell ⟨gb,sl,none⟩ (.int .i64 (g.x.aB+(bd g.x.s i:Int)))):=(aa.refl (fun i=>i=gb) wr).setCell (p:=⟨gb,sl,none⟩) (Or.inl rfl) _;have dN:=HM.o.iS.setCell sl (.int .i64 (g.x.aB+(bd g.x.s i:Int)));rw[akc]at dN;refine⟨hi,by omega,?_,⟨af6,wd1,O1.o.wP DC.o (k.mono (fun i h=>by subst h;omega)),ix.o⟩,dN,by rw[Bm];exact cT,HM.o.kept.bZ k (fun i hi e=>by omega),HM.o.box.kept k (by omega)⟩;have:=hn;rw[Ay]at this;exact this
     clear hn zB lE wA dJ ib hN hSl cT;go_wp2_with fail;go_roundg (((aF g.x.s).length-(i))*(g.ms.length+1)+mn)
     case measure=>exact Ej (Kw.o _ _ (by omega) (Or.inr ⟨rfl,Gx⟩)) xR.o.symm
     case rel=>exact⟨i,mn,gs.set sl (g.x.aB+(bd g.x.s i:Int)),rfl,rfl,rfl,ax⟩
    ·rw[k4]at d0;have hN:=lE.o.2.2.1 (by omega);obtain⟨mn,dJ⟩:∃mn:Nat,m.next=(mn:Int):=⟨m.next.toNat,by omega⟩
     rw[dJ]at d4 hn;have Gx:mn<u:=(by omega);have F:=TF HG.o O1.o (u:=mn) (by omega) hi ix.o;rw[Nk HG.o.fL g.x (show mn<g.ms.length by omega) hi gs,hn]at F;simp only[Fc]at F;have F:=ab F;rw[<-ev]at hn;have HN:=ab hn;clear hn ev zB lE wA dJ hN;go_wp2_with fail;refine(F.o).mono ?_;rintro e w5 ⟨rfl,u7,wk,o5,gx,k5⟩;have ax:Hid (uP w w5 g gb wf i mn gs (some (j,jH)) N2):=⟨hi,by omega,HN.o,⟨u7,wk,o5,gx⟩,HM.o.iS.kept k5 (by have:=DC.o;unfold OG.below at this;omega),HM.o.len,HM.o.kept.trans k5,HM.o.box.kept k5 (by have:=DC.o;unfold OG.below at this;omega)⟩;clear o5 gx k5 F;go_wp2_with fail;go_roundg (((aF g.x.s).length-(i))*(g.ms.length+1)+mn)
     case measure=>exact Ej (Kw.o _ _ (by omega) (Or.inr ⟨rfl,Gx⟩)) xR.o.symm
     case rel=>exact⟨i,mn,gs,rfl,rfl,rfl,ax⟩
    ·rw[k4]at d0;have hN:=lE.o.2.2.1 (by omega);have aiA:=lE.o.2.2.2 k4;obtain⟨mn,dJ⟩:∃mn:Nat,m.next=(mn:Int):=⟨m.next.toNat,by omega⟩
     obtain⟨mo,gI⟩:∃mo:Nat,m.a_=(mo:Int):=⟨m.a_.toNat,by omega⟩
     rw[dJ]at d4 hn;rw[gI]at d5 ho;have Gx:mn<u:=(by omega);have abN:mo<u:=(by omega);have F:=TF HG.o O1.o (u:=mn) (by omega) hi ix.o;rw[Nk HG.o.fL g.x (show mn<g.ms.length by omega) hi gs,hn]at F;simp only[Dc]at F;have F:=ab F;have HN:=ab ho;clear hn ho zB lE wA dJ gI hN aiA;go_wp2_with fail;refine(F.o).mono ?_;rintro e w5 ⟨rfl,u7,wk,o5,gx,k5⟩;have ax:Hid (uP w w5 g gb wf i mo gs (some (j,jH)) N2):=⟨hi,by omega,HN.o,⟨u7,wk,o5,gx⟩,HM.o.iS.kept k5 (by have:=DC.o;unfold OG.below at this;omega),HM.o.len,HM.o.kept.trans k5,HM.o.box.kept k5 (by have:=DC.o;unfold OG.below at this;omega)⟩;have g5:w5.cell? ⟨g.mb,u*6+5,none⟩=some (.int .i64 (mo:Int)):=(k5.cell (p:=⟨g.mb,u*6+5,none⟩) O1.o.at_.rk.iw.lt (by have h1:=HG.o.ID.1;have h2:=HG.o.Lf.2.1;show¬(g.mb=g.ob\/g.mb=g.WB);omega)).trans d5;clear o5 gx k5 F;go_wp2_with fail;go_roundg (((aF g.x.s).length-(i))*(g.ms.length+1)+mo)
     case measure=>exact Ej (Kw.o _ _ (by omega) (Or.inr ⟨rfl,abN⟩)) xR.o.symm
     case rel=>exact⟨i,mo,gs,rfl,rfl,rfl,ax⟩
structure ki(X:ByteArray)(c:CX)(i0 i1:Nat):Prop where
 s:c.s=X.extract (bd X i0) (bd X i1)
 aB:c.aB=(bd X i0:Int)
 le:i0<=i1
 yH:i1<=(aF X).length
 ah:∀e b,e_ e c.ah b=e_ e ((aO X).ahead i0) b
 bh:c.op=false->∀e a,e_ e a c.bh=e_ e a ((aO X).gM i1)
theorem adV{s:ByteArray}(cy:i<=j)(hj:j<=(aF s).length):aF (s.extract (bd s i) (bd s j))=((aF s).drop i|>.take (j-i)).map fun p=>(p.1-bd s i,p.2):=by
 have hm:=fR s cy;have aP:(s.extract (bd s i) (bd s j)).size=bd s j-bd s i:=extract_size s _ _ (iQ s j)
 have hN:j-i<=(s.extract (bd s i) (bd s j)).size:=by
  rw[aP]
  have:∀d,i+d<=j->bd s i+d<=bd s (i+d):=by
   intro d;induction d with
   |zero=>intro _;exact Ab _
   |succ d ih=>intro h;have:=ih (by omega);have:=(pJ (s:=s) (i:=i+d) (by omega)).1;show bd s i+(d+1)<=bd s (i+d+1);omega
  have:=this (j-i) (by omega);rw[show i+(j-i)=j by omega]at this;omega
 unfold aF;have:=ael cy hj (s.extract (bd s i) (bd s j)).size i hN (Ab _) cy;rw[Gd]at this;exact this
theorem ki.n(h:ki X c i0 i1):c.n=i1-i0:=by
 unfold CX.n;have:=h.yH;rw[h.s,adV h.le h.yH];simp only[Db,Dq,List.length_drop];omega
theorem ki.get(h:ki X c i0 i1)(hk:k<i1-i0):(aF c.s)[k]? =((aF X)[i0+k]?).map fun p=>(p.1-bd X i0,p.2):=by
 rw[h.s,adV h.le h.yH,Bv,Aw hk,Ds]
theorem ki.bl(h:ki X c i0 i1)(hk:k<i1-i0):c.bl k=(aO X).bl (i0+k):=by
 unfold CX.bl TX.bl;show((List.map (·.2) (aF c.s))[k]?).getD (-1)=((List.map (·.2) (aF X))[i0+k]?).getD (-1)
 rw[Bv,Bv,h.get hk]
 cases(aF X)[i0+k]? <;>rfl
theorem ki.bd(h:ki X c i0 i1)(hk:k<=i1-i0):(bd c.s k:Int)=(bd X (i0+k):Int)-(bd X i0:Int):=by
 have xc:=fR X (show i0<=i0+k by omega);have hl:=h.le;have w_:=h.yH;by_cases aw:k<i1-i0
 ·have hg:=h.get aw;have hX:(aF X)[i0+k]? =some (aF X)[i0+k]:=Ae (by omega)
  have e1:Go.Proofs.YtpdnofhackjfdaaGreatDoor.bd c.s k=(aF X)[i0+k].1-Go.Proofs.YtpdnofhackjfdaaGreatDoor.bd X i0:=by
   unfold Go.Proofs.YtpdnofhackjfdaaGreatDoor.bd at hg⊢;rw[hg,hX];rfl
  have e2:Go.Proofs.YtpdnofhackjfdaaGreatDoor.bd X (i0+k)=(aF X)[i0+k].1:=zL (by omega);omega
 ·have e1:Go.Proofs.YtpdnofhackjfdaaGreatDoor.bd c.s k=c.s.size:=mP (by have:=h.n;unfold CX.n at this;omega);have e2:c.s.size=Go.Proofs.YtpdnofhackjfdaaGreatDoor.bd X i1-Go.Proofs.YtpdnofhackjfdaaGreatDoor.bd X i0:=by rw[h.s];exact extract_size X _ _ (iQ X i1)
  have e3:i0+k=i1:=by omega
  rw[e1,e2,e3];have:=fR X h.le;omega
theorem ki.aY(h:ki X c i0 i1)(hk:k<=i1-i0):c.aY k=(aO X).aY (i0+k):=by
 have h1:=h.bd hk;have h2:=h.aB;unfold CX.aY;rw[h1,h2];show _=(0:Int)+_
 unfold aO;simp only;omega
theorem ki.eE(h:ki X c i0 i1)(hk:k<=i1-i0)(ho:(c.op&&decide (c.n<=k))=false)(e:Int):e_ e (c.ahead k) (c.gM k)=e_ e ((aO X).ahead (i0+k)) ((aO X).gM (i0+k)):=by
 have hl:=h.yH;have hn:=h.n
 have hb:∀a,e_ e a (c.gM k)=e_ e a ((aO X).gM (i0+k)):=fun a=>by
  by_cases aw:k<i1-i0
  ·have e1:c.gM k=c.bl k:=if_pos (by omega);have e2:(aO X).gM (i0+k)=(aO X).bl (i0+k):=if_pos (show i0+k<(aF X).length by omega);rw[e1,e2,h.bl aw]
  ·have eh:c.op=false:=by
    cases hc:c.op with
    |false=>rfl
    |true=>rw[hc]at ho;simp at ho;omega
   have e1:c.gM k=c.bh:=if_neg (by omega);have:=h.le;rw[e1,h.bh eh,show i0+k=i1 by omega]
 rw[hb];by_cases h0:k=0
 ·subst h0;exact h.ah e _
 ·have e1:c.ahead k=c.bl (k-1):=if_neg h0;have e2:(aO X).ahead (i0+k)=(aO X).bl (i0+k-1):=if_neg (by omega);rw[e1,e2,h.bl (by omega),show i0+k-1=i0+(k-1) by omega]
theorem adh{α:Type}{a b:Option α}{v:α}(h:a=some v):a.or b=some v:=by rw[h];rfl
def Hr(i0:Nat)(r:ik):ik:=r.map fun v=>(i0+v.1,v.2)
structure Tb(X:ByteArray)(c:CX)(i0 i1:Nat)(rc rX:ik):Prop where
 no_:c.op=true->rc=none->rX=none
 so_:c.op=true->∀j gs,rc=some (j,gs)->j<c.n->rX=some (i0+j,gs)
 in_:c.op=false->∀j gs,rX=some (j,gs)->j<=i1->rc=some (j-i0,gs)
 off:c.op=false->rX=none->rc=none
theorem Xf{ms:List MS}(hg:eW ms)(h:ki X c i0 i1)(hu:u<ms.length)(hk:k<=c.n)(gs:List Int):Tb X c i0 i1 (cZ ms c u k gs) (cZ ms (aO X) u (i0+k) gs):=by
 have hn:=h.n;have hl:=h.le;have w_:=h.yH;refine Pp hg c.n (Q:=fun u k=>∀gs,Tb X c i0 i1 (cZ ms c u k gs) (cZ ms (aO X) u (i0+k) gs)) (fun u k m hk hm GM GN gs=>?_) _ k (Ab _) hk u hu gs;have Vc:i0+k<=(aO X).n:=by show _<=(aF X).length;omega
 have hXt:((aO X).op&&decide ((aO X).n<=i0+k))=false:=rfl
 cases ht:(c.op&&decide (c.n<=k))with
 |true=>
  simp only[Co,Az]at ht;rw[yX ht.1 ht.2];exact⟨fun _ h=>(by cases h),fun _ j dB h hj=>(by simp only[Ba,Cm]at h;omega),fun h=>(by rw[ht.1]at h;cases h),fun h=>(by rw[ht.1]at h;cases h)⟩
 |false=>
  obtain⟨⟨k0,k4⟩,g1,g2,g3⟩:=hg u m hm;have hu:=(Ag.1 hm).1;obtain⟨a0,a1,a2,a3,a4⟩:=oN hg c hk hm ht gs;obtain⟨b0,b1,b2,b3,b4⟩:=oN hg (aO X) Vc hm hXt gs
  have T:∀v:Int,0<=v->v<u->∀gs,Tb X c i0 i1 (cZ ms c v k gs) (cZ ms (aO X) v (i0+k) gs):=fun v h0 hv gs=>by
   obtain⟨q,rfl⟩:=Au h0;exact GM q (by omega) gs
  by_cases e0:m.kind=0
  ·rw[a0 e0,b0 e0];refine⟨fun _ h=>(by cases h),fun _ j dB h hj=>?_,fun _ j dB h hj=>?_,fun _ h=>(by cases h)⟩
   ·simp only[Ba,Cm]at h⊢;exact⟨by omega,h.2⟩
   ·simp only[Ba,Cm]at h⊢;exact⟨by omega,h.2⟩
  ·by_cases e1:m.kind=1
   ·rw[a1 e1,b1 e1];have pj:=g1 e1;obtain⟨q,hq⟩:=Au pj.1;by_cases aw:k<c.n
    ·have hX:i0+k<(aO X).n:=by show _<(aF X).length;omega
     rw[<-h.bl (by omega)];have d1:decide (k<c.n)=true:=Cz aw;have d2:decide (i0+k<(aO X).n)=true:=Cz hX;rw[d1,d2,D9];by_cases qI:eV m.sp m.fo m.nt (c.bl k)=true
     ·rw[if_pos qI,if_pos qI,hq];have:=GN q (by omega) aw gs;rw[<-Di]at this;exact this
     ·rw[if_neg qI,if_neg qI];exact⟨fun _ _=>rfl,fun _ j dB h _=>(by cases h),fun _ j dB h _=>(by cases h),fun _ _=>rfl⟩
    ·have d1:decide (k<c.n)=false:=Bh aw;rw[d1,Ew];simp only[Aq,if_false]
     have eh:c.op=false:=by
      cases hc:c.op with
      |false=>rfl
      |true=>rw[hc]at ht;simp at ht;omega
     refine⟨fun h=>(by rw[eh]at h;cases h),fun h=>(by rw[eh]at h;cases h),fun _ j dB hr hj=>?_,fun _ _=>rfl⟩;exfalso;split at hr
     ·rename_i hc
      simp only[Co,Az]at hc;rw[hq]at hr
      have sW:i0+k+1<=j:=by
       have hx:i0+k+1<=(aO X).n:=hc.1;have:=Hp hg (aO X) (show q<ms.length by omega) hx gs;exact(this _ _ hr).1
      omega
     ·cases hr
   ·have jW:=g2 (by omega);by_cases e2:m.kind=2
    ·rw[a2 e2,b2 e2,<-h.eE (by omega) ht];by_cases hh:e_ m.eE (c.ahead k) (c.gM k)=true
     ·rw[if_pos hh,if_pos hh];exact T _ jW.1 jW.2 gs
     ·rw[if_neg hh,if_neg hh];exact⟨fun _ _=>rfl,fun _ j dB h _=>(by cases h),fun _ j dB h _=>(by cases h),fun _ _=>rfl⟩
    ·by_cases e3:m.kind=3
     ·rw[a3 e3,b3 e3,<-h.aY (by omega)];exact T _ jW.1 jW.2 _
     ·have e4:m.kind=4:=(by omega);have ho:=g3 e4;rw[a4 e4,b4 e4];have A:=T _ jW.1 jW.2 gs;have B:=T _ ho.1 ho.2 gs;generalize cZ ms c m.next k gs=ra at A⊢
      generalize cZ ms (aO X) m.next (i0+k) gs=xa at A⊢
      generalize cZ ms c m.a_ k gs=rb at B⊢
      generalize cZ ms (aO X) m.a_ (i0+k) gs=xb at B⊢
      refine⟨fun eh hr=>?_,fun eh j dB hr hj=>?_,fun eh j dB hr hj=>?_,fun eh hr=>?_⟩
      ·cases ra with
       |some v=>cases hr
       |none=>rw[A.no_ eh rfl];exact B.no_ eh hr
      ·cases ra with
       |some v=>rw[adh (A.so_ eh j dB hr hj)]
       |none=>rw[A.no_ eh rfl];exact B.so_ eh j dB hr hj
      ·cases xa with
       |some v=>rw[adh (A.in_ eh j dB hr hj)]
       |none=>rw[A.off eh rfl];exact B.in_ eh j dB hr hj
      ·cases xa with
       |some v=>cases hr
       |none=>rw[A.off eh rfl];exact B.off eh hr
