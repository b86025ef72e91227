/- The sorter's vis -/
import Derived.Test.YtpdnofhackjfdaaGreatDoorP16
set_option linter.all false
set_option maxRecDepth 100000
set_option maxHeartbeats 4000000
namespace Go.Proofs.YtpdnofhackjfdaaGreatDoor
open Go.Proofs.Tryz
open Go.RowKit Go.Maps
variable {M:List MS} {vs:List Sv} {m:MS} {b base c cn g gn nn s:Nat} {V V':VS} {lv nv ov sv:Value} {w:World}
def yK(w:World)(b base g:Nat)(sv nv ov lv:Value)(vs:List Sv)(M:List MS)(V':VS):Ending->World->Prop:=fun e w'=>e=.returned (.tuple #[])/\∃jw dp,fS w' b base sv nv jw dp V'/\jk w' g vs M/\kT b w w' nv ov lv jw dp
theorem Is(w:World)(t:Int)(j:Nat)(u:Value)(h: [GW t][j]? =some u):(w.alloc (.cells #[GW t] 3)).cell? (Addr.add (GB w.heap.size 0) j)=some u:=uT w #[GW t] 3 j u h
theorem Oj(w:World)(t:Int)(k:Nat)(hk:w.heap.size=k)(j:Nat)(u:Value)(h: [GW t][j]? =some u):(w.alloc (.cells #[GW t] 3)).drew.cell? (Addr.add (GB k 0) j)=some u:=by subst hk;exact Is w t j u h
theorem wv(t:Int):∀u∈ [GW t],u.oneCell'=true:=by intro u hu;simp at hu;subst hu;rfl
theorem apM{v:Int}(h:fS w b base (.slice (some (GB g 0)) M.length c) nv ov lv V)(hM:jk w g vs M)(hn:V.num[s]? =some v)(hv:v≠ -1):
 Calls prog 69 #[BT b 0,GW (s:Int)] w (yK w b base g (.slice (some (GB g 0)) M.length c) nv ov lv vs M V):=by
 have az:=(Ai.1 hn).1;obtain⟨gn,cn,rfl,g1,g2,g3,g4,g5⟩:=mO h.num (by omega);have c1:w.cell? (GB b 1)=some (.slice (some (GB gn 0)) V.num.length cn):=h.aq.cell 1;have cs:w.cell? (GB gn s)=some (GW v):=by rw[g4 s az];simp[cQ,hn]
 have hd:(v== -1)=false:=by simpa using hv
 have oE:¬((V.num.length:Int)<=(s:Int)):=by omega
 have PR:=ab (And.intro h hM);clear h hM g4 g5 hn hv;go_in;go_wp2_with fail;go_end0;exact⟨rfl,ov,lv,PR.o.1,PR.o.2,kT.refl _ _ _ _ _⟩
theorem fS.fz(h:fS w b base sv (.slice (some (GB gn 0)) nn cn) ov lv V)(s:Nat):w.frozen? (GB gn s)=false:=by
 rcases h.num.2 with⟨h1,_⟩|⟨g',cap,aO,hv,a1,a2,_⟩
 ·cases h1
 ·cases hv;simp[World.frozen?,a2]
theorem fS.oy(h:fS w b base sv (.slice (some (GB gn 0)) nn cn) ov lv V)(hs:s<V.num.length):∃u,w.cell? (GB gn s)=some (GW u):=by
 obtain⟨g',c',hx,_,_,_,h4,_⟩:=mO h.num (by omega)
 cases hx;exact⟨V.num[s],by rw[h4 s hs];simp[cQ,hs]⟩
def AT(b:Nat)(nv ov:Value)(w':World):Prop:=w'.cell? (GB b 1)=some nv/\w'.cell? (GB b 2)=some ov
theorem Ta{W5:World}{yd zC:Value}{V4:VS}(h5:fS W5 b base sv (.slice (some (GB gn 0)) nn cn) yd zC ⟨V4.num.set s (V4.aP.length:Int),V4.aP,V4.bH⟩)(hM5:jk W5 g vs M)(k5:kT b w W5 (.slice (some (GB gn 0)) nn cn) ov lv yd zC)(k_:g<base):
 (∀W,aa ai W5 W->W.ownsRow base 3 1 yd V4.aP.length (nW V4.aP))/\
 (∀W w7 jw,aa ai W5 W->w7.ownsRow base 3 1 jw (V4.aP.length+1) (nW V4.aP++[GW (s:Int)])->W.grownBy w7 yd.ownBlock->(jw.ownBlock=yd.ownBlock\/jw.ownBlock=some W.heap.size)->
   au w7 b #[sv,.slice (some (GB gn 0)) nn cn,yd,zC] 147/\fS (w7.setCell (GB b 2) jw) b base sv (.slice (some (GB gn 0)) nn cn) jw zC (V4.put s)/\jk (w7.setCell (GB b 2) jw) g vs M/\kT b w (w7.setCell (GB b 2) jw) (.slice (some (GB gn 0)) nn cn) ov lv jw zC):=by
 refine⟨fun W kW=>bU h5.aP kW (fun i _ hx=>hx),fun W w7 jw kW ho hg hl=>?_⟩;obtain⟨r1,r2,r3⟩:=h5.amv s kW ho hg hl;exact⟨r1,r2,hM5.kept r3.kept (fun hx=>by have:=h5.ay hx;omega),k5.trans r3⟩
theorem jk.sB(h:jk w g vs M)(aB:g≠gn)(u:Value):jk (w.setCell (GB gn s) u) g vs M:=h.kept ((aa.refl (fun i=>i=gn) _).setCell (p:=(GB gn s)) (Or.inl rfl) _) aB
theorem apR(h:fS w b base (.slice (some (GB g 0)) M.length c) nv ov lv V)(hM:jk w g vs M)(k_:g<base)(hn:V.num[s]? =some (-1))(hm:M[s]? =some m)(hk:m.kind≠1/\m.kind≠2/\m.kind≠3/\m.kind≠4)(dy:V.aP.length<=9000):
 Calls prog 69 #[BT b 0,GW (s:Int)] w (yK w b base g (.slice (some (GB g 0)) M.length c) nv ov lv vs M (V.put s)):=by
 have az:=(Ai.1 hn).1;obtain⟨i0,cW,dm,du,de⟩:=Bo Tryz.Ig;obtain⟨gn,cn,rfl,g1,g2,g3,g4,g5⟩:=mO h.num (by omega);obtain⟨CS,q,⟨q1,q2,q3⟩,qc⟩:=hM.Kv hm;obtain⟨qk,bV,cA,bY,bM,fF,DS,DT⟩:=q;simp only at q1 q2 q3 qc;subst q1 q2 q3;have gJ:=h.aq.lt;have c0:w.cell? (GB b 0)=some (.slice (some (GB g 0)) M.length c):=h.aq.cell 0;have c1:w.cell? (GB b 1)=some (.slice (some (GB gn 0)) V.num.length cn):=h.aq.cell 1;have cs:w.cell? (GB gn s)=some (GW (-1)):=by rw[g4 s az];simp[cQ,hn]
 have oE:¬((V.num.length:Int)<=(s:Int)):=by omega
 have lH:¬((M.length:Int)<=(s:Int)):=by omega
 obtain⟨d0,d1,d2,d3,d4,d5⟩:=qc w hM;have h1:=h.new ((aa.refl ai w).alloc (.cells #[GW m.kind,.slice bV cA bY,GW bM,GW fF,GW m.next,GW m.bj] 113));have iW:=hM.kept ((aa.refl ai w).alloc (.cells #[GW m.kind,.slice bV cA bY,GW bM,GW fF,GW m.next,GW m.bj] 113)) (fun hx=>hx);have w1:=(kT.refl b w (.slice (some (GB gn 0)) V.num.length cn) ov lv).new ((aa.refl ai w).alloc (.cells #[GW m.kind,.slice bV cA bY,GW bM,GW fF,GW m.next,GW m.bj] 113));have L1:=au.new w #[GW m.kind,.slice bV cA bY,GW bM,GW fF,GW m.next,GW m.bj] 113;have n1:¬nC b (.slice (some (GB gn 0)) V.num.length cn) ov lv w.heap.size:=fun hx=>by have:=h.ay hx;omega
 have k1:(m.kind==1)=false:=by simpa using hk.1
 have k2:(m.kind==2)=false:=by simpa using hk.2.1
 have k3:(m.kind==3)=false:=by simpa using hk.2.2.1
 have k4:(m.kind==4)=false:=by simpa using hk.2.2.2
 have D_:w.frozen? (GB gn s)=false:=g5 s;have Hc:gn≠b:=(h.an gn rfl).1;have V1:b≠gn:=fun e=>Hc e.symm
 have Hb:g≠gn:=by omega
 obtain⟨jm,kV,Ht⟩:=cw h.aP;subst Ht;have E1:(w).cell? (GB b 1)=some (.slice (some (GB gn 0)) V.num.length cn):=h.aq.cell 1;have E2:(w).cell? (GB b 2)=some (.slice jm (V).aP.length kV):=h.aq.cell 2;have TS:Hid (AT b (.slice (some (GB gn 0)) V.num.length cn) (.slice jm (V).aP.length kV) (w.alloc (.cells #[GW m.kind,.slice bV cA bY,GW bM,GW fF,GW m.next,GW m.bj] 113)).drew):=⟨h1.aq.cell 1,h1.aq.cell 2⟩;obtain⟨HR,GR⟩:=Ta (((h.sB s (V.aP.length:Int)).new ((aa.refl ai _).alloc (.cells #[GW m.kind,.slice bV cA bY,GW bM,GW fF,GW m.next,GW m.bj] 113))).new ((aa.refl ai _).drew)) (((hM.sB Hb _).kept ((aa.refl ai _).alloc (.cells #[GW m.kind,.slice bV cA bY,GW bM,GW fF,GW m.next,GW m.bj] 113)) (fun hx=>hx)).kept ((aa.refl ai _).drew) (fun hx=>hx)) ((((kT.refl b w (.slice (some (GB gn 0)) V.num.length cn) (.slice jm V.aP.length kV) lv).sB _).new ((aa.refl ai _).alloc (.cells #[GW m.kind,.slice bV cA bY,GW bM,GW fF,GW m.next,GW m.bj] 113))).new ((aa.refl ai _).drew)) k_;have HR:=ab HR;have GR:=ab GR;have FZ:(w).frozen? (GB gn s)=false:=D_;have SZ:Hid (base<=(w).heap.size):=by have:=h.bb;have:=h.aq.lt;show _<=_;omega
 clear h hM g4 g5 hn hm qc h1 iW w1 L1 n1 hk;go_in;go_wp2_with fail;refine gD (S:=AT b (.slice (some (GB gn 0)) V.num.length cn) (.slice jm (V).aP.length kV)) 11 (by kernel_rfl) rfl rfl rfl (by kernel_rfl) (by kernel_rfl) ?_;have ak:=TS.o;refine aj 0 52 (BT b 0) ak ?_;refine aj 1 53 (BT b 0) ak ?_;refine aj 2 54 (BT b 1) ak ?_;refine aj 3 55 (.slice (some (GB gn 0)) V.num.length cn) ak ?_;refine aj 4 56 (GW (s:Int)) ak ?_;refine aj 5 57 (BT b 0) ak ?_;refine aj 6 58 (BT b 0) ak ?_;refine aj 7 59 (BT b 2) ak ?_;refine aj 8 60 (.slice jm (V).aP.length kV) ak ?_;refine aj 9 61 (GW ((V).aP.length:Int)) ak ?_;refine aj 10 62 (BT gn s) ak ?_;simp only[Act.put,Aa,Ad,Ac];refine At (by kernel_rfl) ?_ _;unfold eo;clear ak;simp only[Ak,Ag,Ah];go_simp;go_wp2_with (at_builtin;refine Ao _ rfl _ _ 22 rfl base 3 i0 _ 1 8 underlying22 cW dm du de rfl (by decide) _ _ _ rfl (HR.o _ ((aa.refl _ _).alloc _)) _ 1 1 [GW (s:Int)] rfl rfl ?c1 ?c2 ?c3 ?c4 ?c5 ?_)
 case c1=>exact Oj _ (s:Int) _ (by simp)
 case c2=>exact wv _
 case c3=>unfold maxLen;omega
 case c4=>omega
 case c5=>have:=SZ.o;simp;omega
 intro v' w7 bL cy eF cI;obtain⟨jl,c',rfl⟩:=cw bL;obtain⟨b7,gw,Gx,a_⟩:=GR.o _ _ _ ((aa.refl _ _).alloc _) bL cy (by simpa using cI);have c7:w7.cell? (GB b 2)=some (.slice jm (V).aP.length kV):=b7.cell 2;have f7:=b7.frozen 2;clear HR GR TS b7;go_wp2_with fail;go_end0;exact⟨rfl,_,_,gw,Gx,a_⟩
theorem apP(h:fS w b base (.slice (some (GB g 0)) M.length c) nv ov lv V)(hM:jk w g vs M)(k_:g<base)(hn:V.num[s]? =some (-1))(hm:M[s]? =some m)(hk:m.kind=2\/m.kind=3)(hF:(∀W ov lv,fS W b base (.slice (some (GB g 0)) M.length c) nv ov lv (V)->jk W g vs M->Calls prog 69 #[BT b 0,GW m.next] W (yK W b base g (.slice (some (GB g 0)) M.length c) nv ov lv vs M (V'))))(l7:V'.num.length=V.num.length)(dy:V'.aP.length<=9000):
 Calls prog 69 #[BT b 0,GW (s:Int)] w (yK w b base g (.slice (some (GB g 0)) M.length c) nv ov lv vs M (V'.put s)):=by
 have az:=(Ai.1 hn).1;obtain⟨i0,cW,dm,du,de⟩:=Bo Tryz.Ig;obtain⟨gn,cn,rfl,g1,g2,g3,g4,g5⟩:=mO h.num (by omega);obtain⟨CS,q,⟨q1,q2,q3⟩,qc⟩:=hM.Kv hm;obtain⟨qk,bV,cA,bY,bM,fF,DS,DT⟩:=q;simp only at q1 q2 q3 qc;subst q1 q2 q3;have gJ:=h.aq.lt;have c0:w.cell? (GB b 0)=some (.slice (some (GB g 0)) M.length c):=h.aq.cell 0;have c1:w.cell? (GB b 1)=some (.slice (some (GB gn 0)) V.num.length cn):=h.aq.cell 1;have cs:w.cell? (GB gn s)=some (GW (-1)):=by rw[g4 s az];simp[cQ,hn]
 have oE:¬((V.num.length:Int)<=(s:Int)):=by omega
 have lH:¬((M.length:Int)<=(s:Int)):=by omega
 obtain⟨d0,d1,d2,d3,d4,d5⟩:=qc w hM;have h1:=h.new ((aa.refl ai w).alloc (.cells #[GW m.kind,.slice bV cA bY,GW bM,GW fF,GW m.next,GW m.bj] 113));have iW:=hM.kept ((aa.refl ai w).alloc (.cells #[GW m.kind,.slice bV cA bY,GW bM,GW fF,GW m.next,GW m.bj] 113)) (fun hx=>hx);have w1:=(kT.refl b w (.slice (some (GB gn 0)) V.num.length cn) ov lv).new ((aa.refl ai w).alloc (.cells #[GW m.kind,.slice bV cA bY,GW bM,GW fF,GW m.next,GW m.bj] 113));have L1:=au.new w #[GW m.kind,.slice bV cA bY,GW bM,GW fF,GW m.next,GW m.bj] 113;have n1:¬nC b (.slice (some (GB gn 0)) V.num.length cn) ov lv w.heap.size:=fun hx=>by have:=h.ay hx;omega
 have F1:=hF _ ov lv h1 iW;have F1:=ab F1;have k1:(m.kind==1)=false:=by rcases hk with e|e<;>simp[e]
 have PK:=ab (And.intro w1 h1);have HGB:=ab k_;clear h hM g4 g5 hn hm qc h1 iW w1 L1 n1 hF;rcases(show((m.kind==2)=true)\/((m.kind==2)=false/\(m.kind==3)=true) by rcases hk with e|e<;>simp[e])with e|⟨e,e'⟩
 all_goals
  clear hk;go_in;go_wp2_with fail;refine(F1.o).mono ?_;rintro e2 w4 ⟨rfl,yd,zC,h4,um,jt⟩;have rm:=PK.o.1.trans jt;have D_:=h4.fz s;obtain⟨u4,Y8⟩:=h4.oy (s:=s) (by first|omega|(simp only[VS.iF];omega));have Hc:gn≠b:=(h4.an gn rfl).1;have V1:b≠gn:=fun e=>Hc e.symm
  have Hb:g≠gn:=by omega
  obtain⟨jm,kV,Ht⟩:=cw h4.aP;subst Ht;have E1:(w4).cell? (GB b 1)=some (.slice (some (GB gn 0)) V.num.length cn):=h4.aq.cell 1;have E2:(w4).cell? (GB b 2)=some (.slice jm (V').aP.length kV):=h4.aq.cell 2;have TS:Hid (AT b (.slice (some (GB gn 0)) V.num.length cn) (.slice jm (V').aP.length kV) (w4).drew):=⟨h4.aq.cell 1,h4.aq.cell 2⟩;obtain⟨HR,GR⟩:=Ta ((h4.sB s ((V').aP.length:Int)).new ((aa.refl ai _).drew)) ((um.sB Hb _).kept ((aa.refl ai _).drew) (fun hx=>hx)) ((rm.sB _).new ((aa.refl ai _).drew)) k_;have HR:=ab HR;have GR:=ab GR;have FZ:(w4).frozen? (GB gn s)=false:=D_;have SZ:Hid (base<=(w4).heap.size):=by have:=h4.bb;have:=h4.aq.lt;show _<=_;omega
  clear h4 um rm jt PK F1 E1 k_;go_wp2_with fail;refine gD (S:=AT b (.slice (some (GB gn 0)) V.num.length cn) (.slice jm (V').aP.length kV)) 11 (by kernel_rfl) rfl rfl rfl (by kernel_rfl) (by kernel_rfl) ?_;have ak:=TS.o;refine aj 0 52 (BT b 0) ak ?_;refine aj 1 53 (BT b 0) ak ?_;refine aj 2 54 (BT b 1) ak ?_;refine aj 3 55 (.slice (some (GB gn 0)) V.num.length cn) ak ?_;refine aj 4 56 (GW (s:Int)) ak ?_;refine aj 5 57 (BT b 0) ak ?_;refine aj 6 58 (BT b 0) ak ?_;refine aj 7 59 (BT b 2) ak ?_;refine aj 8 60 (.slice jm (V').aP.length kV) ak ?_;refine aj 9 61 (GW ((V').aP.length:Int)) ak ?_;refine aj 10 62 (BT gn s) ak ?_;simp only[Act.put,Aa,Ad,Ac];refine At (by kernel_rfl) ?_ _;unfold eo;clear ak;simp only[Ak,Ag,Ah];go_simp;go_wp2_with (at_builtin;refine Ao _ rfl _ _ 22 rfl base 3 i0 _ 1 8 underlying22 cW dm du de rfl (by decide) _ _ _ rfl (HR.o _ ((aa.refl _ _).alloc _)) _ 1 1 [GW (s:Int)] rfl rfl ?c1 ?c2 ?c3 ?c4 ?c5 ?_)
  case c1=>exact Oj _ (s:Int) _ (by simp)
  case c2=>exact wv _
  case c3=>unfold maxLen;omega
  case c4=>omega
  case c5=>have:=SZ.o;simp;omega
  intro v' w7 bL cy eF cI;obtain⟨jl,c',rfl⟩:=cw bL;obtain⟨b7,gw,Gx,a_⟩:=GR.o _ _ _ ((aa.refl _ _).alloc _) bL cy (by simpa using cI);have c7:w7.cell? (GB b 2)=some (.slice jm (V').aP.length kV):=b7.cell 2;have f7:=b7.frozen 2;clear HR GR TS b7;go_wp2_with fail;go_end0;exact⟨rfl,_,_,gw,Gx,a_⟩
theorem apT(h:fS w b base (.slice (some (GB g 0)) M.length c) nv ov lv V)(hM:jk w g vs M)(k_:g<base)(hn:V.num[s]? =some (-1))(hm:M[s]? =some m)(hk:m.kind=4){V2:VS}(hF:(∀W ov lv,fS W b base (.slice (some (GB g 0)) M.length c) nv ov lv (V)->jk W g vs M->Calls prog 69 #[BT b 0,GW m.next] W (yK W b base g (.slice (some (GB g 0)) M.length c) nv ov lv vs M (V'))))(MI:(∀W ov lv,fS W b base (.slice (some (GB g 0)) M.length c) nv ov lv (V')->jk W g vs M->Calls prog 69 #[BT b 0,GW m.bj] W (yK W b base g (.slice (some (GB g 0)) M.length c) nv ov lv vs M (V2))))(aqY:V'.num.length=V.num.length)(l7:V2.num.length=V.num.length)(dy:V2.aP.length<=9000):
 Calls prog 69 #[BT b 0,GW (s:Int)] w (yK w b base g (.slice (some (GB g 0)) M.length c) nv ov lv vs M (V2.put s)):=by
 have az:=(Ai.1 hn).1;obtain⟨i0,cW,dm,du,de⟩:=Bo Tryz.Ig;obtain⟨gn,cn,rfl,g1,g2,g3,g4,g5⟩:=mO h.num (by omega);obtain⟨CS,q,⟨q1,q2,q3⟩,qc⟩:=hM.Kv hm;obtain⟨qk,bV,cA,bY,bM,fF,DS,DT⟩:=q;simp only at q1 q2 q3 qc;subst q1 q2 q3;have gJ:=h.aq.lt;have c0:w.cell? (GB b 0)=some (.slice (some (GB g 0)) M.length c):=h.aq.cell 0;have c1:w.cell? (GB b 1)=some (.slice (some (GB gn 0)) V.num.length cn):=h.aq.cell 1;have cs:w.cell? (GB gn s)=some (GW (-1)):=by rw[g4 s az];simp[cQ,hn]
 have oE:¬((V.num.length:Int)<=(s:Int)):=by omega
 have lH:¬((M.length:Int)<=(s:Int)):=by omega
 obtain⟨d0,d1,d2,d3,d4,d5⟩:=qc w hM;have h1:=h.new ((aa.refl ai w).alloc (.cells #[GW m.kind,.slice bV cA bY,GW bM,GW fF,GW m.next,GW m.bj] 113));have iW:=hM.kept ((aa.refl ai w).alloc (.cells #[GW m.kind,.slice bV cA bY,GW bM,GW fF,GW m.next,GW m.bj] 113)) (fun hx=>hx);have w1:=(kT.refl b w (.slice (some (GB gn 0)) V.num.length cn) ov lv).new ((aa.refl ai w).alloc (.cells #[GW m.kind,.slice bV cA bY,GW bM,GW fF,GW m.next,GW m.bj] 113));have L1:=au.new w #[GW m.kind,.slice bV cA bY,GW bM,GW fF,GW m.next,GW m.bj] 113;have n1:¬nC b (.slice (some (GB gn 0)) V.num.length cn) ov lv w.heap.size:=fun hx=>by have:=h.ay hx;omega
 have F1:=hF _ ov lv h1 iW;have F1:=ab F1;have Lf:=ab MI;have PK:=ab (And.intro (And.intro w1 h1) (And.intro L1 n1));clear h hM g4 g5 hn hm qc h1 iW w1 L1 n1 hF MI;have k1:(m.kind==1)=false:=by simp[hk]
 have k2:(m.kind==2)=false:=by simp[hk]
 have k3:(m.kind==3)=false:=by simp[hk]
 have k4:(m.kind==4)=true:=by simp[hk]
 clear hk;go_in;go_wp2_with fail;refine(F1.o).mono ?_;rintro e2 w3 ⟨rfl,sC,lv3,h3,MJ,Xn⟩;have kk3:=PK.o.1.1.trans Xn;have L3:=PK.o.2.1.kept Xn.kept PK.o.2.2;have l5:w3.cell? (GB w.heap.size 5)=some (GW m.bj):=L3.cell 5;have F2:=ab (Lf.o _ _ _ h3 MJ);have K3:=ab kk3;clear h3 MJ Xn kk3 L3 Lf PK F1;go_wp2_with fail;refine(F2.o).mono ?_;rintro e2 w4 ⟨rfl,yd,zC,h4,um,jt⟩;have rm:=K3.o.trans jt;have D_:=h4.fz s;obtain⟨u4,Y8⟩:=h4.oy (s:=s) (by omega);have Hc:gn≠b:=(h4.an gn rfl).1;have V1:b≠gn:=fun e=>Hc e.symm
 have Hb:g≠gn:=by omega
 obtain⟨jm,kV,Ht⟩:=cw h4.aP;subst Ht;have E1:(w4).cell? (GB b 1)=some (.slice (some (GB gn 0)) V.num.length cn):=h4.aq.cell 1;have E2:(w4).cell? (GB b 2)=some (.slice jm (V2).aP.length kV):=h4.aq.cell 2;have TS:Hid (AT b (.slice (some (GB gn 0)) V.num.length cn) (.slice jm (V2).aP.length kV) (w4).drew):=⟨h4.aq.cell 1,h4.aq.cell 2⟩;obtain⟨HR,GR⟩:=Ta ((h4.sB s ((V2).aP.length:Int)).new ((aa.refl ai _).drew)) ((um.sB Hb _).kept ((aa.refl ai _).drew) (fun hx=>hx)) ((rm.sB _).new ((aa.refl ai _).drew)) k_;have HR:=ab HR;have GR:=ab GR;have FZ:(w4).frozen? (GB gn s)=false:=D_;have SZ:Hid (base<=(w4).heap.size):=by have:=h4.bb;have:=h4.aq.lt;show _<=_;omega
 clear h4 um rm jt K3 F2 E1;go_wp2_with fail;refine gD (S:=AT b (.slice (some (GB gn 0)) V.num.length cn) (.slice jm (V2).aP.length kV)) 11 (by kernel_rfl) rfl rfl rfl (by kernel_rfl) (by kernel_rfl) ?_;have ak:=TS.o;refine aj 0 52 (BT b 0) ak ?_;refine aj 1 53 (BT b 0) ak ?_;refine aj 2 54 (BT b 1) ak ?_;refine aj 3 55 (.slice (some (GB gn 0)) V.num.length cn) ak ?_;refine aj 4 56 (GW (s:Int)) ak ?_;refine aj 5 57 (BT b 0) ak ?_;refine aj 6 58 (BT b 0) ak ?_;refine aj 7 59 (BT b 2) ak ?_;refine aj 8 60 (.slice jm (V2).aP.length kV) ak ?_;refine aj 9 61 (GW ((V2).aP.length:Int)) ak ?_;refine aj 10 62 (BT gn s) ak ?_;simp only[Act.put,Aa,Ad,Ac];refine At (by kernel_rfl) ?_ _;unfold eo;clear ak;simp only[Ak,Ag,Ah];go_simp;go_wp2_with (at_builtin;refine Ao _ rfl _ _ 22 rfl base 3 i0 _ 1 8 underlying22 cW dm du de rfl (by decide) _ _ _ rfl (HR.o _ ((aa.refl _ _).alloc _)) _ 1 1 [GW (s:Int)] rfl rfl ?c1 ?c2 ?c3 ?c4 ?c5 ?_)
 case c1=>exact Oj _ (s:Int) _ (by simp)
 case c2=>exact wv _
 case c3=>unfold maxLen;omega
 case c4=>omega
 case c5=>have:=SZ.o;simp;omega
 intro v' w7 bL cy eF cI;obtain⟨jl,c',rfl⟩:=cw bL;obtain⟨b7,gw,Gx,a_⟩:=GR.o _ _ _ ((aa.refl _ _).alloc _) bL cy (by simpa using cI);have c7:w7.cell? (GB b 2)=some (.slice jm (V2).aP.length kV):=b7.cell 2;have f7:=b7.frozen 2;clear HR GR TS b7;go_wp2_with fail;go_end0;exact⟨rfl,_,_,gw,Gx,a_⟩
theorem apS(h:fS w b base (.slice (some (GB g 0)) M.length c) nv ov lv V)(hM:jk w g vs M)(k_:g<base)(hn:V.num[s]? =some (-1))(hm:M[s]? =some m)(hk:m.kind=1)(pF:0<=m.next)(dy:V.aP.length<=9000)(pB:V.bH.length<=9000):
 Calls prog 69 #[BT b 0,GW (s:Int)] w (yK w b base g (.slice (some (GB g 0)) M.length c) nv ov lv vs M ((V.iF m.next.toNat).put s)):=by
 have az:=(Ai.1 hn).1;obtain⟨i0,cW,dm,du,de⟩:=Bo Tryz.Ig;obtain⟨gn,cn,rfl,g1,g2,g3,g4,g5⟩:=mO h.num (by omega);obtain⟨CS,q,⟨q1,q2,q3⟩,qc⟩:=hM.Kv hm;obtain⟨qk,bV,cA,bY,bM,fF,DS,DT⟩:=q;simp only at q1 q2 q3 qc;subst q1 q2 q3;have gJ:=h.aq.lt;have c0:w.cell? (GB b 0)=some (.slice (some (GB g 0)) M.length c):=h.aq.cell 0;have c1:w.cell? (GB b 1)=some (.slice (some (GB gn 0)) V.num.length cn):=h.aq.cell 1;have cs:w.cell? (GB gn s)=some (GW (-1)):=by rw[g4 s az];simp[cQ,hn]
 have oE:¬((V.num.length:Int)<=(s:Int)):=by omega
 have lH:¬((M.length:Int)<=(s:Int)):=by omega
 obtain⟨d0,d1,d2,d3,d4,d5⟩:=qc w hM;have h1:=h.new ((aa.refl ai w).alloc (.cells #[GW m.kind,.slice bV cA bY,GW bM,GW fF,GW m.next,GW m.bj] 113));have iW:=hM.kept ((aa.refl ai w).alloc (.cells #[GW m.kind,.slice bV cA bY,GW bM,GW fF,GW m.next,GW m.bj] 113)) (fun hx=>hx);have w1:=(kT.refl b w (.slice (some (GB gn 0)) V.num.length cn) ov lv).new ((aa.refl ai w).alloc (.cells #[GW m.kind,.slice bV cA bY,GW bM,GW fF,GW m.next,GW m.bj] 113));have L1:=au.new w #[GW m.kind,.slice bV cA bY,GW bM,GW fF,GW m.next,GW m.bj] 113;have n1:¬nC b (.slice (some (GB gn 0)) V.num.length cn) ov lv w.heap.size:=fun hx=>by have:=h.ay hx;omega
 obtain⟨yN,Gn,Hm⟩:=cw h.bH;subst Hm;have c3:w.cell? (GB b 3)=some (.slice yN V.bH.length Gn):=h.aq.cell 3;have aj6:((m.next.toNat:Nat):Int)=m.next:=by omega
 have LR:Hid (∀W,aa ai (w.alloc (.cells #[GW m.kind,.slice bV cA bY,GW bM,GW fF,GW m.next,GW m.bj] 113)) W->W.ownsRow base 3 1 (.slice yN V.bH.length Gn) V.bH.length (nW V.bH)):=fun W k=>bU h1.bH k (fun i _ hx=>hx)
 have LG:Hid (∀W w7 dp,aa ai (w.alloc (.cells #[GW m.kind,.slice bV cA bY,GW bM,GW fF,GW m.next,GW m.bj] 113)) W->w7.ownsRow base 3 1 dp (V.bH.length+1) (nW V.bH++[GW m.next])->W.grownBy w7 (Value.slice yN V.bH.length Gn).ownBlock->(dp.ownBlock=(Value.slice yN V.bH.length Gn).ownBlock\/dp.ownBlock=some W.heap.size)->au w7 b #[(.slice (some (GB g 0)) M.length c),(.slice (some (GB gn 0)) V.num.length cn),ov,.slice yN V.bH.length Gn] 147/\fS (w7.setCell (GB b 3) dp) b base (.slice (some (GB g 0)) M.length c) (.slice (some (GB gn 0)) V.num.length cn) ov dp (V.iF m.next.toNat)/\jk (w7.setCell (GB b 3) dp) g vs M/\kT b w (w7.setCell (GB b 3) dp) (.slice (some (GB gn 0)) V.num.length cn) ov (.slice yN V.bH.length Gn) ov dp):=fun W w7 dp k ho hg hl=>by
  rw[<-aj6]at ho;obtain⟨r1,r2,r3⟩:=h1.ale m.next.toNat k ho hg hl
  exact⟨r1,r2,iW.kept r3.kept (fun hx=>by have:=h1.ay hx;omega),w1.trans r3⟩
 have SZ0:Hid (base<=w.heap.size):=by have:=h.bb;show _<=_;omega
 have NW:Hid (∀j u,[GW m.next][j]? =some u->(((w.alloc (.cells #[GW m.kind,.slice bV cA bY,GW bM,GW fF,GW m.next,GW m.bj] 113)).alloc (.cells #[GW m.next] 3)).drew).cell? (Addr.add ⟨w.heap.size+1,0,none⟩ j)=some u):=fun j u hu=>Oj _ m.next _ (by simp) j u hu
 clear h hM g4 g5 hn hm qc h1 iW w1 L1 n1;have k1:(m.kind==1)=true:=by simp[hk]
 clear hk;go_in;go_wp2_with fail;go_region_law (refine SY rfl (.tmp 28) (.tmp 31) 22 rfl base 3 i0 _ 1 8 underlying22 cW dm du de rfl (by decide) _ _ _ rfl (LR.o _ (by repeat first|exact aa.refl _ _|apply aa.alloc|apply aa.drew|apply aa.drewN)) ⟨w.heap.size+1,0,none⟩ 1 1 [GW m.next] rfl rfl NW.o (wv _) (by unfold maxLen;omega) (by omega) (by have:=SZ0.o;simp;omega) ?_;intro v' w7 ho hg hl;obtain⟨jl,c',rfl⟩:=cw ho;obtain⟨b7,h4,um,k4⟩:=LG.o _ _ _ (by repeat first|exact aa.refl _ _|apply aa.alloc|apply aa.drew|apply aa.drewN) ho hg hl;have c7:w7.cell? (GB b 3)=some (.slice yN V.bH.length Gn):=b7.cell 3;have f7:w7.frozen? (GB b 3)=false:=b7.frozen 3)
 all_goals
  generalize w7.setCell (GB b 3) (.slice jl (V.bH.length+1) c')=w4 at*
  have rm:=k4;have dy:(V.iF m.next.toNat).aP.length<=9000:=dy;have D_:=h4.fz s;obtain⟨u4,Y8⟩:=h4.oy (s:=s) (by first|omega|(simp only[VS.iF];omega));have Hc:gn≠b:=(h4.an gn rfl).1;have V1:b≠gn:=fun e=>Hc e.symm
  have Hb:g≠gn:=by omega
  obtain⟨jm,kV,Ht⟩:=cw h4.aP;subst Ht;have E1:(w4).cell? (GB b 1)=some (.slice (some (GB gn 0)) V.num.length cn):=h4.aq.cell 1;have E2:(w4).cell? (GB b 2)=some (.slice jm (V.iF m.next.toNat).aP.length kV):=h4.aq.cell 2;have TS:Hid (AT b (.slice (some (GB gn 0)) V.num.length cn) (.slice jm (V.iF m.next.toNat).aP.length kV) (w4).drew):=⟨h4.aq.cell 1,h4.aq.cell 2⟩;obtain⟨HR,GR⟩:=Ta ((h4.sB s ((V.iF m.next.toNat).aP.length:Int)).new ((aa.refl ai _).drew)) ((um.sB Hb _).kept ((aa.refl ai _).drew) (fun hx=>hx)) ((rm.sB _).new ((aa.refl ai _).drew)) k_;have HR:=ab HR;have GR:=ab GR;have FZ:(w4).frozen? (GB gn s)=false:=D_;have SZ:Hid (base<=(w4).heap.size):=by have:=h4.bb;have:=h4.aq.lt;show _<=_;omega
  clear h4 um rm k4 E1 b7 LR LG NW;go_wp2_with fail;refine gD (S:=AT b (.slice (some (GB gn 0)) V.num.length cn) (.slice jm (V.iF m.next.toNat).aP.length kV)) 11 (by kernel_rfl) rfl rfl rfl (by kernel_rfl) (by kernel_rfl) ?_;have ak:=TS.o;refine aj 0 52 (BT b 0) ak ?_;refine aj 1 53 (BT b 0) ak ?_;refine aj 2 54 (BT b 1) ak ?_;refine aj 3 55 (.slice (some (GB gn 0)) V.num.length cn) ak ?_;refine aj 4 56 (GW (s:Int)) ak ?_;refine aj 5 57 (BT b 0) ak ?_;refine aj 6 58 (BT b 0) ak ?_;refine aj 7 59 (BT b 2) ak ?_;refine aj 8 60 (.slice jm (V.iF m.next.toNat).aP.length kV) ak ?_;refine aj 9 61 (GW ((V.iF m.next.toNat).aP.length:Int)) ak ?_;refine aj 10 62 (BT gn s) ak ?_;simp only[Act.put,Aa,Ad,Ac];refine At (by kernel_rfl) ?_ _;unfold eo;clear ak;simp only[Ak,Ag,Ah];go_simp;go_wp2_with (at_builtin;refine Ao _ rfl _ _ 22 rfl base 3 i0 _ 1 8 underlying22 cW dm du de rfl (by decide) _ _ _ rfl (HR.o _ ((aa.refl _ _).alloc _)) _ 1 1 [GW (s:Int)] rfl rfl ?c1 ?c2 ?c3 ?c4 ?c5 ?_)
  case c1=>exact Oj _ (s:Int) _ (by simp)
  case c2=>exact wv _
  case c3=>unfold maxLen;omega
  case c4=>omega
  case c5=>have:=SZ.o;simp;omega
  intro v' w7 bL cy eF cI;obtain⟨jl,c',rfl⟩:=cw bL;obtain⟨b7,gw,Gx,a_⟩:=GR.o _ _ _ ((aa.refl _ _).alloc _) bL cy (by simpa using cI);have c7:w7.cell? (GB b 2)=some (.slice jm (V.iF m.next.toNat).aP.length kV):=b7.cell 2;have f7:=b7.frozen 2;clear HR GR TS b7;go_wp2_with fail;go_end0;exact⟨rfl,_,_,gw,Gx,a_⟩
theorem apQ(k_:g<base)(nP:∀(i:Nat) (m:MS),M[i]? =some m->0<=m.next){s:Int}(hv:lB M V s V'):V'.aP.length<=9000->V'.bH.length<=9000->
 ∀W ov lv,fS W b base (.slice (some (GB g 0)) M.length c) nv ov lv V->jk W g vs M->Calls prog 69 #[BT b 0,GW s] W (yK W b base g (.slice (some (GB g 0)) M.length c) nv ov lv vs M V'):=by
 induction hv with
 |aN V s v hn hv=>intro _ _ W ov lv h hM;exact apM h hM hn hv
 |stop V s m hn hm hk=>
  intro h1 h2 W ov lv h hM;exact apR h hM k_ hn hm hk (by simp[VS.put]at h1;omega)
 |take V s m hn hm hk=>
  intro h1 h2 W ov lv h hM;exact apS h hM k_ hn hm hk (nP s m hm) (by simp[VS.put,VS.iF]at h1;omega) (by simp[VS.put,VS.iF]at h2;omega)
 |one V V' s m hn hm hk hv ih=>
  intro h1 h2 W ov lv h hM;have h_:V'.aP.length<=9000:=by simp[VS.put]at h1;omega
  exact apP h hM k_ hn hm hk (ih h_ h2) hv.grow.1 h_
 |cM V V' V2 s m hn hm hk hv hw ih uK=>
  intro h1 h2 W ov lv h hM;have h_:V2.aP.length<=9000:=by simp[VS.put]at h1;omega
  have h2':V2.bH.length<=9000:=h2;have g1:=hv.grow;have g2:=hw.grow;exact apT h hM k_ hn hm hk (ih (by omega) (by omega)) (uK h_ h2') g1.1 (by omega) h_
