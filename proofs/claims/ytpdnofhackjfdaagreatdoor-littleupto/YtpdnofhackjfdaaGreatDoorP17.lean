/- The sorter's vis -/
import Derived.Test.YtpdnofhackjfdaaGreatDoorP16
set_option linter.all false
set_option maxRecDepth 100000
set_option maxHeartbeats 4000000
namespace Go.Proofs.YtpdnofhackjfdaaGreatDoor
open Go.Proofs.Tryz
open Go.RowKit Go.Maps
variable {M:List MS} {vs:List Sv} {m:MS} {b base c cn g gn nn s:Nat} {V V':VS} {lv nv ov sv:Value} {w:World}
def yc(w:World)(b base g:Nat)(sv nv ov lv:Value)(vs:List Sv)(M:List MS)(V':VS):Ending->World->Prop:=fun e w'=>e=.returned (.tuple #[])/\∃jq de,fJ w' b base sv nv jq de V'/\je w' g vs M/\kN b w w' nv ov lv jq de
theorem Hc(w:World)(t:Int)(j:Nat)(u:Value)(h: [Value.int .i64 t][j]? =some u):(w.alloc (.cells #[.int .i64 t] 3)).cell? (Addr.add ⟨w.heap.size,0,none⟩ j)=some u:=uy w #[.int .i64 t] 3 j u h
theorem Nh(w:World)(t:Int)(k:Nat)(hk:w.heap.size=k)(j:Nat)(u:Value)(h: [Value.int .i64 t][j]? =some u):(w.alloc (.cells #[.int .i64 t] 3)).drew.cell? (Addr.add ⟨k,0,none⟩ j)=some u:=by subst hk;exact Hc w t j u h
theorem vI(t:Int):∀u∈ [Value.int .i64 t],u.oneCell'=true:=by intro u hu;simp at hu;subst hu;rfl
theorem ape{v:Int}(h:fJ w b base (.slice (some ⟨g,0,none⟩) M.length c) nv ov lv V)(hM:je w g vs M)(hn:V.num[s]? =some v)(hv:v≠ -1):
 Calls prog 69 #[.pointer (some ⟨b,0,none⟩),.int .i64 (s:Int)] w (yc w b base g (.slice (some ⟨g,0,none⟩) M.length c) nv ov lv vs M V):=by
 have aw:=(Ag.1 hn).1;obtain⟨gn,cn,rfl,g1,g2,g3,g4,g5⟩:=mG h.num (by omega);have c1:w.cell? ⟨b,1,none⟩=some (.slice (some ⟨gn,0,none⟩) V.num.length cn):=h.aj.cell 1;have cs:w.cell? ⟨gn,s,none⟩=some (.int .i64 v):=by rw[g4 s aw];simp[cY,hn]
 have hd:(v== -1)=false:=by simpa using hv
 have oy:¬((V.num.length:Int)<=(s:Int)):=by omega
 have OD:=ab (And.intro h hM);clear h hM g4 g5 hn hv;go_in;go_wp2_with fail;go_end0;exact⟨rfl,ov,lv,OD.o.1,OD.o.2,kN.refl _ _ _ _ _⟩
theorem fJ.fz(h:fJ w b base sv (.slice (some ⟨gn,0,none⟩) nn cn) ov lv V)(s:Nat):w.frozen? ⟨gn,s,none⟩=false:=by
 rcases h.num.2 with⟨h1,_⟩|⟨g',cap,aM,hv,a1,a2,_⟩
 ·cases h1
 ·cases hv;simp[World.frozen?,a2]
theorem fJ.oj(h:fJ w b base sv (.slice (some ⟨gn,0,none⟩) nn cn) ov lv V)(hs:s<V.num.length):∃u,w.cell? ⟨gn,s,none⟩=some (.int .i64 u):=by
 obtain⟨g',c',hx,_,_,_,h4,_⟩:=mG h.num (by omega)
 cases hx;exact⟨V.num[s],by rw[h4 s hs];simp[cY,hs]⟩
def zI(b:Nat)(nv ov:Value)(w':World):Prop:=w'.cell? ⟨b,1,none⟩=some nv/\w'.cell? ⟨b,2,none⟩=some ov
theorem RN{W5:World}{xz yL:Value}{V4:VS}(h5:fJ W5 b base sv (.slice (some ⟨gn,0,none⟩) nn cn) xz yL ⟨V4.num.set s (V4.aL.length:Int),V4.aL,V4.bD⟩)(hM5:je W5 g vs M)(k5:kN b w W5 (.slice (some ⟨gn,0,none⟩) nn cn) ov lv xz yL)(kT:g<base):
 (∀W,aa af W5 W->W.ownsRow base 3 1 xz V4.aL.length (nQ V4.aL))/\
 (∀W w7 jq,aa af W5 W->w7.ownsRow base 3 1 jq (V4.aL.length+1) (nQ V4.aL++[.int .i64 (s:Int)])->W.grownBy w7 xz.ownBlock->(jq.ownBlock=xz.ownBlock\/jq.ownBlock=some W.heap.size)->
   aq w7 b #[sv,.slice (some ⟨gn,0,none⟩) nn cn,xz,yL] 147/\fJ (w7.setCell ⟨b,2,none⟩ jq) b base sv (.slice (some ⟨gn,0,none⟩) nn cn) jq yL (V4.put s)/\je (w7.setCell ⟨b,2,none⟩ jq) g vs M/\kN b w (w7.setCell ⟨b,2,none⟩ jq) (.slice (some ⟨gn,0,none⟩) nn cn) ov lv jq yL):=by
 refine⟨fun W kW=>bY h5.aL kW (fun i _ hx=>hx),fun W w7 jq kW ho hg hl=>?_⟩;obtain⟨r1,r2,r3⟩:=h5.al2 s kW ho hg hl;exact⟨r1,r2,hM5.kept r3.kept (fun hx=>by have:=h5.au hx;omega),k5.trans r3⟩
theorem je.rV(h:je w g vs M)(az:g≠gn)(u:Value):je (w.setCell ⟨gn,s,none⟩ u) g vs M:=h.kept ((aa.refl (fun i=>i=gn) _).setCell (p:=⟨gn,s,none⟩) (Or.inl rfl) _) az
theorem api(h:fJ w b base (.slice (some ⟨g,0,none⟩) M.length c) nv ov lv V)(hM:je w g vs M)(kT:g<base)(hn:V.num[s]? =some (-1))(hm:M[s]? =some m)(hk:m.kind≠1/\m.kind≠2/\m.kind≠3/\m.kind≠4)(dw:V.aL.length<=9000):
 Calls prog 69 #[.pointer (some ⟨b,0,none⟩),.int .i64 (s:Int)] w (yc w b base g (.slice (some ⟨g,0,none⟩) M.length c) nv ov lv vs M (V.put s)):=by
 have aw:=(Ag.1 hn).1;obtain⟨i0,cS,dm,dp,c_⟩:=Bp Tryz.GU;obtain⟨gn,cn,rfl,g1,g2,g3,g4,g5⟩:=mG h.num (by omega);obtain⟨BC,q,⟨q1,q2,q3⟩,qc⟩:=hM.JW hm;obtain⟨qk,bS,cd,bT,bI,fi,CO,CP⟩:=q;simp only at q1 q2 q3 qc;subst q1 q2 q3;have gD:=h.aj.lt;have c0:w.cell? ⟨b,0,none⟩=some (.slice (some ⟨g,0,none⟩) M.length c):=h.aj.cell 0;have c1:w.cell? ⟨b,1,none⟩=some (.slice (some ⟨gn,0,none⟩) V.num.length cn):=h.aj.cell 1;have cs:w.cell? ⟨gn,s,none⟩=some (.int .i64 (-1)):=by rw[g4 s aw];simp[cY,hn]
 have oy:¬((V.num.length:Int)<=(s:Int)):=by omega
 have lu:¬((M.length:Int)<=(s:Int)):=by omega
 obtain⟨d0,d1,d2,d3,d4,d5⟩:=qc w hM;have h1:=h.new ((aa.refl af w).alloc (.cells #[.int .i64 m.kind,.slice bS cd bT,.int .i64 bI,.int .i64 fi,.int .i64 m.next,.int .i64 m.a_] 113));have iG:=hM.kept ((aa.refl af w).alloc (.cells #[.int .i64 m.kind,.slice bS cd bT,.int .i64 bI,.int .i64 fi,.int .i64 m.next,.int .i64 m.a_] 113)) (fun hx=>hx);have w1:=(kN.refl b w (.slice (some ⟨gn,0,none⟩) V.num.length cn) ov lv).new ((aa.refl af w).alloc (.cells #[.int .i64 m.kind,.slice bS cd bT,.int .i64 bI,.int .i64 fi,.int .i64 m.next,.int .i64 m.a_] 113));have L1:=aq.new w #[.int .i64 m.kind,.slice bS cd bT,.int .i64 bI,.int .i64 fi,.int .i64 m.next,.int .i64 m.a_] 113;have n1:¬nj b (.slice (some ⟨gn,0,none⟩) V.num.length cn) ov lv w.heap.size:=fun hx=>by have:=h.au hx;omega
 have k1:(m.kind==1)=false:=by simpa using hk.1
 have k2:(m.kind==2)=false:=by simpa using hk.2.1
 have k3:(m.kind==3)=false:=by simpa using hk.2.2.1
 have k4:(m.kind==4)=false:=by simpa using hk.2.2.2
 have CZ:w.frozen? ⟨gn,s,none⟩=false:=g5 s;have Gq:gn≠b:=(h.an gn rfl).1;have UP:b≠gn:=fun e=>Gq e.symm
 have Gp:g≠gn:=by omega
 obtain⟨jh,kQ,Gy⟩:=cK h.aL;subst Gy;have E1:(w).cell? ⟨b,1,none⟩=some (.slice (some ⟨gn,0,none⟩) V.num.length cn):=h.aj.cell 1;have E2:(w).cell? ⟨b,2,none⟩=some (.slice jh (V).aL.length kQ):=h.aj.cell 2;have TS:Hid (zI b (.slice (some ⟨gn,0,none⟩) V.num.length cn) (.slice jh (V).aL.length kQ) (w.alloc (.cells #[.int .i64 m.kind,.slice bS cd bT,.int .i64 bI,.int .i64 fi,.int .i64 m.next,.int .i64 m.a_] 113)).drew):=⟨h1.aj.cell 1,h1.aj.cell 2⟩;obtain⟨HR,GR⟩:=RN (((h.rV s (V.aL.length:Int)).new ((aa.refl af _).alloc (.cells #[.int .i64 m.kind,.slice bS cd bT,.int .i64 bI,.int .i64 fi,.int .i64 m.next,.int .i64 m.a_] 113))).new ((aa.refl af _).drew)) (((hM.rV Gp _).kept ((aa.refl af _).alloc (.cells #[.int .i64 m.kind,.slice bS cd bT,.int .i64 bI,.int .i64 fi,.int .i64 m.next,.int .i64 m.a_] 113)) (fun hx=>hx)).kept ((aa.refl af _).drew) (fun hx=>hx)) ((((kN.refl b w (.slice (some ⟨gn,0,none⟩) V.num.length cn) (.slice jh V.aL.length kQ) lv).rV _).new ((aa.refl af _).alloc (.cells #[.int .i64 m.kind,.slice bS cd bT,.int .i64 bI,.int .i64 fi,.int .i64 m.next,.int .i64 m.a_] 113))).new ((aa.refl af _).drew)) kT;have HR:=ab HR;have GR:=ab GR;have FZ:(w).frozen? ⟨gn,s,none⟩=false:=CZ;have SZ:Hid (base<=(w).heap.size):=by have:=h.bb;have:=h.aj.lt;show _<=_;omega
 clear h hM g4 g5 hn hm qc h1 iG w1 L1 n1 hk;go_in;go_wp2_with fail;refine gW (S:=zI b (.slice (some ⟨gn,0,none⟩) V.num.length cn) (.slice jh (V).aL.length kQ)) 11 (by kernel_rfl) rfl rfl rfl (by kernel_rfl) (by kernel_rfl) ?_;have ak:=TS.o;refine ai 0 52 (.pointer (some ⟨b,0,none⟩)) ak ?_;refine ai 1 53 (.pointer (some ⟨b,0,none⟩)) ak ?_;refine ai 2 54 (.pointer (some ⟨b,1,none⟩)) ak ?_;refine ai 3 55 (.slice (some ⟨gn,0,none⟩) V.num.length cn) ak ?_;refine ai 4 56 (.int .i64 (s:Int)) ak ?_;refine ai 5 57 (.pointer (some ⟨b,0,none⟩)) ak ?_;refine ai 6 58 (.pointer (some ⟨b,0,none⟩)) ak ?_;refine ai 7 59 (.pointer (some ⟨b,2,none⟩)) ak ?_;refine ai 8 60 (.slice jh (V).aL.length kQ) ak ?_;refine ai 9 61 (.int .i64 ((V).aL.length:Int)) ak ?_;refine ai 10 62 (.pointer (some ⟨gn,s,none⟩)) ak ?_;simp only[Act.put,Aa,Ad,Ac];refine At (by kernel_rfl) ?_ _;unfold eN;clear ak;simp only[Ak,Ah,Ai];go_simp;go_wp2_with (at_builtin;refine Ap _ rfl _ _ 22 rfl base 3 i0 _ 1 8 underlying22 cS dm dp c_ rfl (by decide) _ _ _ rfl (HR.o _ ((aa.refl _ _).alloc _)) _ 1 1 [.int .i64 (s:Int)] rfl rfl ?c1 ?c2 ?c3 ?c4 ?c5 ?_)
 case c1=>exact Nh _ (s:Int) _ (by simp)
 case c2=>exact vI _
 case c3=>unfold maxLen;omega
 case c4=>omega
 case c5=>have:=SZ.o;simp;omega
 intro v' w7 bH b_ dS cB;obtain⟨jg,c',rfl⟩:=cK bH;obtain⟨b7,fZ,ES,aX⟩:=GR.o _ _ _ ((aa.refl _ _).alloc _) bH b_ (by simpa using cB);have c7:w7.cell? ⟨b,2,none⟩=some (.slice jh (V).aL.length kQ):=b7.cell 2;have f7:=b7.frozen 2;clear HR GR TS b7;go_wp2_with fail;go_end0;exact⟨rfl,_,_,fZ,ES,aX⟩
theorem apg(h:fJ w b base (.slice (some ⟨g,0,none⟩) M.length c) nv ov lv V)(hM:je w g vs M)(kT:g<base)(hn:V.num[s]? =some (-1))(hm:M[s]? =some m)(hk:m.kind=2\/m.kind=3)(hF:(∀W ov lv,fJ W b base (.slice (some ⟨g,0,none⟩) M.length c) nv ov lv (V)->je W g vs M->Calls prog 69 #[.pointer (some ⟨b,0,none⟩),.int .i64 m.next] W (yc W b base g (.slice (some ⟨g,0,none⟩) M.length c) nv ov lv vs M (V'))))(lQ:V'.num.length=V.num.length)(dw:V'.aL.length<=9000):
 Calls prog 69 #[.pointer (some ⟨b,0,none⟩),.int .i64 (s:Int)] w (yc w b base g (.slice (some ⟨g,0,none⟩) M.length c) nv ov lv vs M (V'.put s)):=by
 have aw:=(Ag.1 hn).1;obtain⟨i0,cS,dm,dp,c_⟩:=Bp Tryz.GU;obtain⟨gn,cn,rfl,g1,g2,g3,g4,g5⟩:=mG h.num (by omega);obtain⟨BC,q,⟨q1,q2,q3⟩,qc⟩:=hM.JW hm;obtain⟨qk,bS,cd,bT,bI,fi,CO,CP⟩:=q;simp only at q1 q2 q3 qc;subst q1 q2 q3;have gD:=h.aj.lt;have c0:w.cell? ⟨b,0,none⟩=some (.slice (some ⟨g,0,none⟩) M.length c):=h.aj.cell 0;have c1:w.cell? ⟨b,1,none⟩=some (.slice (some ⟨gn,0,none⟩) V.num.length cn):=h.aj.cell 1;have cs:w.cell? ⟨gn,s,none⟩=some (.int .i64 (-1)):=by rw[g4 s aw];simp[cY,hn]
 have oy:¬((V.num.length:Int)<=(s:Int)):=by omega
 have lu:¬((M.length:Int)<=(s:Int)):=by omega
 obtain⟨d0,d1,d2,d3,d4,d5⟩:=qc w hM;have h1:=h.new ((aa.refl af w).alloc (.cells #[.int .i64 m.kind,.slice bS cd bT,.int .i64 bI,.int .i64 fi,.int .i64 m.next,.int .i64 m.a_] 113));have iG:=hM.kept ((aa.refl af w).alloc (.cells #[.int .i64 m.kind,.slice bS cd bT,.int .i64 bI,.int .i64 fi,.int .i64 m.next,.int .i64 m.a_] 113)) (fun hx=>hx);have w1:=(kN.refl b w (.slice (some ⟨gn,0,none⟩) V.num.length cn) ov lv).new ((aa.refl af w).alloc (.cells #[.int .i64 m.kind,.slice bS cd bT,.int .i64 bI,.int .i64 fi,.int .i64 m.next,.int .i64 m.a_] 113));have L1:=aq.new w #[.int .i64 m.kind,.slice bS cd bT,.int .i64 bI,.int .i64 fi,.int .i64 m.next,.int .i64 m.a_] 113;have n1:¬nj b (.slice (some ⟨gn,0,none⟩) V.num.length cn) ov lv w.heap.size:=fun hx=>by have:=h.au hx;omega
 have F1:=hF _ ov lv h1 iG;have F1:=ab F1;have k1:(m.kind==1)=false:=by rcases hk with e|e<;>simp[e]
 have PK:=ab (And.intro w1 h1);have HGB:=ab kT;clear h hM g4 g5 hn hm qc h1 iG w1 L1 n1 hF;rcases(show((m.kind==2)=true)\/((m.kind==2)=false/\(m.kind==3)=true) by rcases hk with e|e<;>simp[e])with e|⟨e,e'⟩
 all_goals
  clear hk;go_in;go_wp2_with fail;refine(F1.o).mono ?_;rintro e2 w4 ⟨rfl,xz,yL,h4,tT,jm⟩;have qK:=PK.o.1.trans jm;have CZ:=h4.fz s;obtain⟨u4,XU⟩:=h4.oj (s:=s) (by first|omega|(simp only[VS.iq];omega));have Gq:gn≠b:=(h4.an gn rfl).1;have UP:b≠gn:=fun e=>Gq e.symm
  have Gp:g≠gn:=by omega
  obtain⟨jh,kQ,Gy⟩:=cK h4.aL;subst Gy;have E1:(w4).cell? ⟨b,1,none⟩=some (.slice (some ⟨gn,0,none⟩) V.num.length cn):=h4.aj.cell 1;have E2:(w4).cell? ⟨b,2,none⟩=some (.slice jh (V').aL.length kQ):=h4.aj.cell 2;have TS:Hid (zI b (.slice (some ⟨gn,0,none⟩) V.num.length cn) (.slice jh (V').aL.length kQ) (w4).drew):=⟨h4.aj.cell 1,h4.aj.cell 2⟩;obtain⟨HR,GR⟩:=RN ((h4.rV s ((V').aL.length:Int)).new ((aa.refl af _).drew)) ((tT.rV Gp _).kept ((aa.refl af _).drew) (fun hx=>hx)) ((qK.rV _).new ((aa.refl af _).drew)) kT;have HR:=ab HR;have GR:=ab GR;have FZ:(w4).frozen? ⟨gn,s,none⟩=false:=CZ;have SZ:Hid (base<=(w4).heap.size):=by have:=h4.bb;have:=h4.aj.lt;show _<=_;omega
  clear h4 tT qK jm PK F1 E1 kT;go_wp2_with fail;refine gW (S:=zI b (.slice (some ⟨gn,0,none⟩) V.num.length cn) (.slice jh (V').aL.length kQ)) 11 (by kernel_rfl) rfl rfl rfl (by kernel_rfl) (by kernel_rfl) ?_;have ak:=TS.o;refine ai 0 52 (.pointer (some ⟨b,0,none⟩)) ak ?_;refine ai 1 53 (.pointer (some ⟨b,0,none⟩)) ak ?_;refine ai 2 54 (.pointer (some ⟨b,1,none⟩)) ak ?_;refine ai 3 55 (.slice (some ⟨gn,0,none⟩) V.num.length cn) ak ?_;refine ai 4 56 (.int .i64 (s:Int)) ak ?_;refine ai 5 57 (.pointer (some ⟨b,0,none⟩)) ak ?_;refine ai 6 58 (.pointer (some ⟨b,0,none⟩)) ak ?_;refine ai 7 59 (.pointer (some ⟨b,2,none⟩)) ak ?_;refine ai 8 60 (.slice jh (V').aL.length kQ) ak ?_;refine ai 9 61 (.int .i64 ((V').aL.length:Int)) ak ?_;refine ai 10 62 (.pointer (some ⟨gn,s,none⟩)) ak ?_;simp only[Act.put,Aa,Ad,Ac];refine At (by kernel_rfl) ?_ _;unfold eN;clear ak;simp only[Ak,Ah,Ai];go_simp;go_wp2_with (at_builtin;refine Ap _ rfl _ _ 22 rfl base 3 i0 _ 1 8 underlying22 cS dm dp c_ rfl (by decide) _ _ _ rfl (HR.o _ ((aa.refl _ _).alloc _)) _ 1 1 [.int .i64 (s:Int)] rfl rfl ?c1 ?c2 ?c3 ?c4 ?c5 ?_)
  case c1=>exact Nh _ (s:Int) _ (by simp)
  case c2=>exact vI _
  case c3=>unfold maxLen;omega
  case c4=>omega
  case c5=>have:=SZ.o;simp;omega
  intro v' w7 bH b_ dS cB;obtain⟨jg,c',rfl⟩:=cK bH;obtain⟨b7,fZ,ES,aX⟩:=GR.o _ _ _ ((aa.refl _ _).alloc _) bH b_ (by simpa using cB);have c7:w7.cell? ⟨b,2,none⟩=some (.slice jh (V').aL.length kQ):=b7.cell 2;have f7:=b7.frozen 2;clear HR GR TS b7;go_wp2_with fail;go_end0;exact⟨rfl,_,_,fZ,ES,aX⟩
theorem apk(h:fJ w b base (.slice (some ⟨g,0,none⟩) M.length c) nv ov lv V)(hM:je w g vs M)(kT:g<base)(hn:V.num[s]? =some (-1))(hm:M[s]? =some m)(hk:m.kind=4){V2:VS}(hF:(∀W ov lv,fJ W b base (.slice (some ⟨g,0,none⟩) M.length c) nv ov lv (V)->je W g vs M->Calls prog 69 #[.pointer (some ⟨b,0,none⟩),.int .i64 m.next] W (yc W b base g (.slice (some ⟨g,0,none⟩) M.length c) nv ov lv vs M (V'))))(hF2:(∀W ov lv,fJ W b base (.slice (some ⟨g,0,none⟩) M.length c) nv ov lv (V')->je W g vs M->Calls prog 69 #[.pointer (some ⟨b,0,none⟩),.int .i64 m.a_] W (yc W b base g (.slice (some ⟨g,0,none⟩) M.length c) nv ov lv vs M (V2))))(aqt:V'.num.length=V.num.length)(lQ:V2.num.length=V.num.length)(dw:V2.aL.length<=9000):
 Calls prog 69 #[.pointer (some ⟨b,0,none⟩),.int .i64 (s:Int)] w (yc w b base g (.slice (some ⟨g,0,none⟩) M.length c) nv ov lv vs M (V2.put s)):=by
 have aw:=(Ag.1 hn).1;obtain⟨i0,cS,dm,dp,c_⟩:=Bp Tryz.GU;obtain⟨gn,cn,rfl,g1,g2,g3,g4,g5⟩:=mG h.num (by omega);obtain⟨BC,q,⟨q1,q2,q3⟩,qc⟩:=hM.JW hm;obtain⟨qk,bS,cd,bT,bI,fi,CO,CP⟩:=q;simp only at q1 q2 q3 qc;subst q1 q2 q3;have gD:=h.aj.lt;have c0:w.cell? ⟨b,0,none⟩=some (.slice (some ⟨g,0,none⟩) M.length c):=h.aj.cell 0;have c1:w.cell? ⟨b,1,none⟩=some (.slice (some ⟨gn,0,none⟩) V.num.length cn):=h.aj.cell 1;have cs:w.cell? ⟨gn,s,none⟩=some (.int .i64 (-1)):=by rw[g4 s aw];simp[cY,hn]
 have oy:¬((V.num.length:Int)<=(s:Int)):=by omega
 have lu:¬((M.length:Int)<=(s:Int)):=by omega
 obtain⟨d0,d1,d2,d3,d4,d5⟩:=qc w hM;have h1:=h.new ((aa.refl af w).alloc (.cells #[.int .i64 m.kind,.slice bS cd bT,.int .i64 bI,.int .i64 fi,.int .i64 m.next,.int .i64 m.a_] 113));have iG:=hM.kept ((aa.refl af w).alloc (.cells #[.int .i64 m.kind,.slice bS cd bT,.int .i64 bI,.int .i64 fi,.int .i64 m.next,.int .i64 m.a_] 113)) (fun hx=>hx);have w1:=(kN.refl b w (.slice (some ⟨gn,0,none⟩) V.num.length cn) ov lv).new ((aa.refl af w).alloc (.cells #[.int .i64 m.kind,.slice bS cd bT,.int .i64 bI,.int .i64 fi,.int .i64 m.next,.int .i64 m.a_] 113));have L1:=aq.new w #[.int .i64 m.kind,.slice bS cd bT,.int .i64 bI,.int .i64 fi,.int .i64 m.next,.int .i64 m.a_] 113;have n1:¬nj b (.slice (some ⟨gn,0,none⟩) V.num.length cn) ov lv w.heap.size:=fun hx=>by have:=h.au hx;omega
 have F1:=hF _ ov lv h1 iG;have F1:=ab F1;have Km:=ab hF2;have PK:=ab (And.intro (And.intro w1 h1) (And.intro L1 n1));clear h hM g4 g5 hn hm qc h1 iG w1 L1 n1 hF hF2;have k1:(m.kind==1)=false:=by simp[hk]
 have k2:(m.kind==2)=false:=by simp[hk]
 have k3:(m.kind==3)=false:=by simp[hk]
 have k4:(m.kind==4)=true:=by simp[hk]
 clear hk;go_in;go_wp2_with fail;refine(F1.o).mono ?_;rintro e2 w3 ⟨rfl,ov3,lv3,h3,LQ,V1⟩;have kk3:=PK.o.1.1.trans V1;have L3:=PK.o.2.1.kept V1.kept PK.o.2.2;have l5:w3.cell? ⟨w.heap.size,5,none⟩=some (.int .i64 m.a_):=L3.cell 5;have F2:=ab (Km.o _ _ _ h3 LQ);have K3:=ab kk3;clear h3 LQ V1 kk3 L3 Km PK F1;go_wp2_with fail;refine(F2.o).mono ?_;rintro e2 w4 ⟨rfl,xz,yL,h4,tT,jm⟩;have qK:=K3.o.trans jm;have CZ:=h4.fz s;obtain⟨u4,XU⟩:=h4.oj (s:=s) (by omega);have Gq:gn≠b:=(h4.an gn rfl).1;have UP:b≠gn:=fun e=>Gq e.symm
 have Gp:g≠gn:=by omega
 obtain⟨jh,kQ,Gy⟩:=cK h4.aL;subst Gy;have E1:(w4).cell? ⟨b,1,none⟩=some (.slice (some ⟨gn,0,none⟩) V.num.length cn):=h4.aj.cell 1;have E2:(w4).cell? ⟨b,2,none⟩=some (.slice jh (V2).aL.length kQ):=h4.aj.cell 2;have TS:Hid (zI b (.slice (some ⟨gn,0,none⟩) V.num.length cn) (.slice jh (V2).aL.length kQ) (w4).drew):=⟨h4.aj.cell 1,h4.aj.cell 2⟩;obtain⟨HR,GR⟩:=RN ((h4.rV s ((V2).aL.length:Int)).new ((aa.refl af _).drew)) ((tT.rV Gp _).kept ((aa.refl af _).drew) (fun hx=>hx)) ((qK.rV _).new ((aa.refl af _).drew)) kT;have HR:=ab HR;have GR:=ab GR;have FZ:(w4).frozen? ⟨gn,s,none⟩=false:=CZ;have SZ:Hid (base<=(w4).heap.size):=by have:=h4.bb;have:=h4.aj.lt;show _<=_;omega
 clear h4 tT qK jm K3 F2 E1;go_wp2_with fail;refine gW (S:=zI b (.slice (some ⟨gn,0,none⟩) V.num.length cn) (.slice jh (V2).aL.length kQ)) 11 (by kernel_rfl) rfl rfl rfl (by kernel_rfl) (by kernel_rfl) ?_;have ak:=TS.o;refine ai 0 52 (.pointer (some ⟨b,0,none⟩)) ak ?_;refine ai 1 53 (.pointer (some ⟨b,0,none⟩)) ak ?_;refine ai 2 54 (.pointer (some ⟨b,1,none⟩)) ak ?_;refine ai 3 55 (.slice (some ⟨gn,0,none⟩) V.num.length cn) ak ?_;refine ai 4 56 (.int .i64 (s:Int)) ak ?_;refine ai 5 57 (.pointer (some ⟨b,0,none⟩)) ak ?_;refine ai 6 58 (.pointer (some ⟨b,0,none⟩)) ak ?_;refine ai 7 59 (.pointer (some ⟨b,2,none⟩)) ak ?_;refine ai 8 60 (.slice jh (V2).aL.length kQ) ak ?_;refine ai 9 61 (.int .i64 ((V2).aL.length:Int)) ak ?_;refine ai 10 62 (.pointer (some ⟨gn,s,none⟩)) ak ?_;simp only[Act.put,Aa,Ad,Ac];refine At (by kernel_rfl) ?_ _;unfold eN;clear ak;simp only[Ak,Ah,Ai];go_simp;go_wp2_with (at_builtin;refine Ap _ rfl _ _ 22 rfl base 3 i0 _ 1 8 underlying22 cS dm dp c_ rfl (by decide) _ _ _ rfl (HR.o _ ((aa.refl _ _).alloc _)) _ 1 1 [.int .i64 (s:Int)] rfl rfl ?c1 ?c2 ?c3 ?c4 ?c5 ?_)
 case c1=>exact Nh _ (s:Int) _ (by simp)
 case c2=>exact vI _
 case c3=>unfold maxLen;omega
 case c4=>omega
 case c5=>have:=SZ.o;simp;omega
 intro v' w7 bH b_ dS cB;obtain⟨jg,c',rfl⟩:=cK bH;obtain⟨b7,fZ,ES,aX⟩:=GR.o _ _ _ ((aa.refl _ _).alloc _) bH b_ (by simpa using cB);have c7:w7.cell? ⟨b,2,none⟩=some (.slice jh (V2).aL.length kQ):=b7.cell 2;have f7:=b7.frozen 2;clear HR GR TS b7;go_wp2_with fail;go_end0;exact⟨rfl,_,_,fZ,ES,aX⟩
theorem apj(h:fJ w b base (.slice (some ⟨g,0,none⟩) M.length c) nv ov lv V)(hM:je w g vs M)(kT:g<base)(hn:V.num[s]? =some (-1))(hm:M[s]? =some m)(hk:m.kind=1)(pk:0<=m.next)(dw:V.aL.length<=9000)(pg:V.bD.length<=9000):
 Calls prog 69 #[.pointer (some ⟨b,0,none⟩),.int .i64 (s:Int)] w (yc w b base g (.slice (some ⟨g,0,none⟩) M.length c) nv ov lv vs M ((V.iq m.next.toNat).put s)):=by
 have aw:=(Ag.1 hn).1;obtain⟨i0,cS,dm,dp,c_⟩:=Bp Tryz.GU;obtain⟨gn,cn,rfl,g1,g2,g3,g4,g5⟩:=mG h.num (by omega);obtain⟨BC,q,⟨q1,q2,q3⟩,qc⟩:=hM.JW hm;obtain⟨qk,bS,cd,bT,bI,fi,CO,CP⟩:=q;simp only at q1 q2 q3 qc;subst q1 q2 q3;have gD:=h.aj.lt;have c0:w.cell? ⟨b,0,none⟩=some (.slice (some ⟨g,0,none⟩) M.length c):=h.aj.cell 0;have c1:w.cell? ⟨b,1,none⟩=some (.slice (some ⟨gn,0,none⟩) V.num.length cn):=h.aj.cell 1;have cs:w.cell? ⟨gn,s,none⟩=some (.int .i64 (-1)):=by rw[g4 s aw];simp[cY,hn]
 have oy:¬((V.num.length:Int)<=(s:Int)):=by omega
 have lu:¬((M.length:Int)<=(s:Int)):=by omega
 obtain⟨d0,d1,d2,d3,d4,d5⟩:=qc w hM;have h1:=h.new ((aa.refl af w).alloc (.cells #[.int .i64 m.kind,.slice bS cd bT,.int .i64 bI,.int .i64 fi,.int .i64 m.next,.int .i64 m.a_] 113));have iG:=hM.kept ((aa.refl af w).alloc (.cells #[.int .i64 m.kind,.slice bS cd bT,.int .i64 bI,.int .i64 fi,.int .i64 m.next,.int .i64 m.a_] 113)) (fun hx=>hx);have w1:=(kN.refl b w (.slice (some ⟨gn,0,none⟩) V.num.length cn) ov lv).new ((aa.refl af w).alloc (.cells #[.int .i64 m.kind,.slice bS cd bT,.int .i64 bI,.int .i64 fi,.int .i64 m.next,.int .i64 m.a_] 113));have L1:=aq.new w #[.int .i64 m.kind,.slice bS cd bT,.int .i64 bI,.int .i64 fi,.int .i64 m.next,.int .i64 m.a_] 113;have n1:¬nj b (.slice (some ⟨gn,0,none⟩) V.num.length cn) ov lv w.heap.size:=fun hx=>by have:=h.au hx;omega
 obtain⟨ye,EG,Gw⟩:=cK h.bD;subst Gw;have c3:w.cell? ⟨b,3,none⟩=some (.slice ye V.bD.length EG):=h.aj.cell 3;have aju:((m.next.toNat:Nat):Int)=m.next:=by omega
 have LR:Hid (∀W,aa af (w.alloc (.cells #[.int .i64 m.kind,.slice bS cd bT,.int .i64 bI,.int .i64 fi,.int .i64 m.next,.int .i64 m.a_] 113)) W->W.ownsRow base 3 1 (.slice ye V.bD.length EG) V.bD.length (nQ V.bD)):=fun W k=>bY h1.bD k (fun i _ hx=>hx)
 have LG:Hid (∀W w7 de,aa af (w.alloc (.cells #[.int .i64 m.kind,.slice bS cd bT,.int .i64 bI,.int .i64 fi,.int .i64 m.next,.int .i64 m.a_] 113)) W->w7.ownsRow base 3 1 de (V.bD.length+1) (nQ V.bD++[.int .i64 m.next])->W.grownBy w7 (Value.slice ye V.bD.length EG).ownBlock->(de.ownBlock=(Value.slice ye V.bD.length EG).ownBlock\/de.ownBlock=some W.heap.size)->aq w7 b #[(.slice (some ⟨g,0,none⟩) M.length c),(.slice (some ⟨gn,0,none⟩) V.num.length cn),ov,.slice ye V.bD.length EG] 147/\fJ (w7.setCell ⟨b,3,none⟩ de) b base (.slice (some ⟨g,0,none⟩) M.length c) (.slice (some ⟨gn,0,none⟩) V.num.length cn) ov de (V.iq m.next.toNat)/\je (w7.setCell ⟨b,3,none⟩ de) g vs M/\kN b w (w7.setCell ⟨b,3,none⟩ de) (.slice (some ⟨gn,0,none⟩) V.num.length cn) ov (.slice ye V.bD.length EG) ov de):=fun W w7 de k ho hg hl=>by
  rw[<-aju]at ho;obtain⟨r1,r2,r3⟩:=h1.akz m.next.toNat k ho hg hl
  exact⟨r1,r2,iG.kept r3.kept (fun hx=>by have:=h1.au hx;omega),w1.trans r3⟩
 have SZ0:Hid (base<=w.heap.size):=by have:=h.bb;show _<=_;omega
 have NW:Hid (∀j u,[Value.int .i64 m.next][j]? =some u->(((w.alloc (.cells #[.int .i64 m.kind,.slice bS cd bT,.int .i64 bI,.int .i64 fi,.int .i64 m.next,.int .i64 m.a_] 113)).alloc (.cells #[.int .i64 m.next] 3)).drew).cell? (Addr.add ⟨w.heap.size+1,0,none⟩ j)=some u):=fun j u hu=>Nh _ m.next _ (by simp) j u hu
 clear h hM g4 g5 hn hm qc h1 iG w1 L1 n1;have k1:(m.kind==1)=true:=by simp[hk]
 clear hk;go_in;go_wp2_with fail;go_region_law (refine RK rfl (.tmp 28) (.tmp 31) 22 rfl base 3 i0 _ 1 8 underlying22 cS dm dp c_ rfl (by decide) _ _ _ rfl (LR.o _ (by repeat first|exact aa.refl _ _|apply aa.alloc|apply aa.drew|apply aa.drewN)) ⟨w.heap.size+1,0,none⟩ 1 1 [.int .i64 m.next] rfl rfl NW.o (vI _) (by unfold maxLen;omega) (by omega) (by have:=SZ0.o;simp;omega) ?_;intro v' w7 ho hg hl;obtain⟨jg,c',rfl⟩:=cK ho;obtain⟨b7,h4,tT,k4⟩:=LG.o _ _ _ (by repeat first|exact aa.refl _ _|apply aa.alloc|apply aa.drew|apply aa.drewN) ho hg hl;have c7:w7.cell? ⟨b,3,none⟩=some (.slice ye V.bD.length EG):=b7.cell 3;have f7:w7.frozen? ⟨b,3,none⟩=false:=b7.frozen 3)
 all_goals
  generalize w7.setCell ⟨b,3,none⟩ (.slice jg (V.bD.length+1) c')=w4 at*
  have qK:=k4;have dw:(V.iq m.next.toNat).aL.length<=9000:=dw;have CZ:=h4.fz s;obtain⟨u4,XU⟩:=h4.oj (s:=s) (by first|omega|(simp only[VS.iq];omega));have Gq:gn≠b:=(h4.an gn rfl).1;have UP:b≠gn:=fun e=>Gq e.symm
  have Gp:g≠gn:=by omega
  obtain⟨jh,kQ,Gy⟩:=cK h4.aL;subst Gy;have E1:(w4).cell? ⟨b,1,none⟩=some (.slice (some ⟨gn,0,none⟩) V.num.length cn):=h4.aj.cell 1;have E2:(w4).cell? ⟨b,2,none⟩=some (.slice jh (V.iq m.next.toNat).aL.length kQ):=h4.aj.cell 2;have TS:Hid (zI b (.slice (some ⟨gn,0,none⟩) V.num.length cn) (.slice jh (V.iq m.next.toNat).aL.length kQ) (w4).drew):=⟨h4.aj.cell 1,h4.aj.cell 2⟩;obtain⟨HR,GR⟩:=RN ((h4.rV s ((V.iq m.next.toNat).aL.length:Int)).new ((aa.refl af _).drew)) ((tT.rV Gp _).kept ((aa.refl af _).drew) (fun hx=>hx)) ((qK.rV _).new ((aa.refl af _).drew)) kT;have HR:=ab HR;have GR:=ab GR;have FZ:(w4).frozen? ⟨gn,s,none⟩=false:=CZ;have SZ:Hid (base<=(w4).heap.size):=by have:=h4.bb;have:=h4.aj.lt;show _<=_;omega
  clear h4 tT qK k4 E1 b7 LR LG NW;go_wp2_with fail;refine gW (S:=zI b (.slice (some ⟨gn,0,none⟩) V.num.length cn) (.slice jh (V.iq m.next.toNat).aL.length kQ)) 11 (by kernel_rfl) rfl rfl rfl (by kernel_rfl) (by kernel_rfl) ?_;have ak:=TS.o;refine ai 0 52 (.pointer (some ⟨b,0,none⟩)) ak ?_;refine ai 1 53 (.pointer (some ⟨b,0,none⟩)) ak ?_;refine ai 2 54 (.pointer (some ⟨b,1,none⟩)) ak ?_;refine ai 3 55 (.slice (some ⟨gn,0,none⟩) V.num.length cn) ak ?_;refine ai 4 56 (.int .i64 (s:Int)) ak ?_;refine ai 5 57 (.pointer (some ⟨b,0,none⟩)) ak ?_;refine ai 6 58 (.pointer (some ⟨b,0,none⟩)) ak ?_;refine ai 7 59 (.pointer (some ⟨b,2,none⟩)) ak ?_;refine ai 8 60 (.slice jh (V.iq m.next.toNat).aL.length kQ) ak ?_;refine ai 9 61 (.int .i64 ((V.iq m.next.toNat).aL.length:Int)) ak ?_;refine ai 10 62 (.pointer (some ⟨gn,s,none⟩)) ak ?_;simp only[Act.put,Aa,Ad,Ac];refine At (by kernel_rfl) ?_ _;unfold eN;clear ak;simp only[Ak,Ah,Ai];go_simp;go_wp2_with (at_builtin;refine Ap _ rfl _ _ 22 rfl base 3 i0 _ 1 8 underlying22 cS dm dp c_ rfl (by decide) _ _ _ rfl (HR.o _ ((aa.refl _ _).alloc _)) _ 1 1 [.int .i64 (s:Int)] rfl rfl ?c1 ?c2 ?c3 ?c4 ?c5 ?_)
  case c1=>exact Nh _ (s:Int) _ (by simp)
  case c2=>exact vI _
  case c3=>unfold maxLen;omega
  case c4=>omega
  case c5=>have:=SZ.o;simp;omega
  intro v' w7 bH b_ dS cB;obtain⟨jg,c',rfl⟩:=cK bH;obtain⟨b7,fZ,ES,aX⟩:=GR.o _ _ _ ((aa.refl _ _).alloc _) bH b_ (by simpa using cB);have c7:w7.cell? ⟨b,2,none⟩=some (.slice jh (V.iq m.next.toNat).aL.length kQ):=b7.cell 2;have f7:=b7.frozen 2;clear HR GR TS b7;go_wp2_with fail;go_end0;exact⟨rfl,_,_,fZ,ES,aX⟩
theorem aph(kT:g<base)(nF:∀(i:Nat) (m:MS),M[i]? =some m->0<=m.next){s:Int}(hv:lk M V s V'):V'.aL.length<=9000->V'.bD.length<=9000->
 ∀W ov lv,fJ W b base (.slice (some ⟨g,0,none⟩) M.length c) nv ov lv V->je W g vs M->Calls prog 69 #[.pointer (some ⟨b,0,none⟩),.int .i64 s] W (yc W b base g (.slice (some ⟨g,0,none⟩) M.length c) nv ov lv vs M V'):=by
 induction hv with
 |aJ V s v hn hv=>intro _ _ W ov lv h hM;exact ape h hM hn hv
 |stop V s m hn hm hk=>
  intro h1 h2 W ov lv h hM;exact api h hM kT hn hm hk (by simp[VS.put]at h1;omega)
 |take V s m hn hm hk=>
  intro h1 h2 W ov lv h hM;exact apj h hM kT hn hm hk (nF s m hm) (by simp[VS.put,VS.iq]at h1;omega) (by simp[VS.put,VS.iq]at h2;omega)
 |one V V' s m hn hm hk hv ih=>
  intro h1 h2 W ov lv h hM;have gO:V'.aL.length<=9000:=by simp[VS.put]at h1;omega
  exact apg h hM kT hn hm hk (ih gO h2) hv.grow.1 gO
 |cA V V' V2 s m hn hm hk hv hw ih uj=>
  intro h1 h2 W ov lv h hM;have gO:V2.aL.length<=9000:=by simp[VS.put]at h1;omega
  have h2':V2.bD.length<=9000:=h2;have g1:=hv.grow;have g2:=hw.grow;exact apk h hM kT hn hm hk (ih (by omega) (by omega)) (uj gO h2') g1.1 (by omega) gO
