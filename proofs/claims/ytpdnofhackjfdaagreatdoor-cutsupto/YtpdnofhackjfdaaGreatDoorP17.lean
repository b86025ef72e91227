/- The sorter's visit does what the mirror says -/
import Derived.Test.YtpdnofhackjfdaaGreatDoorP16
set_option linter.all false
set_option maxRecDepth 100000
set_option maxHeartbeats 4000000
namespace Go.Proofs.YtpdnofhackjfdaaGreatDoor
open Go.Proofs.Tryz
open Go.RowKit Go.Maps
variable {M:List MS} {vs:List Sv} {m:MS} {b base c cn g gn nn s:Nat} {V V':VS} {lv nv ov sv:Value} {w:World}
def yd(w:World)(b base g:Nat)(sv nv ov lv:Value)(vs:List Sv)(M:List MS)(V':VS):Ending->World->Prop:=fun e w'=>e=.returned (.tuple #[])/\∃jn dc,fI w' b base sv nv jn dc V'/\jc w' g vs M/\kI b w w' nv ov lv jn dc
theorem GK(w:World)(t:Int)(j:Nat)(u:Value)(h: [Value.int .i64 t][j]? =some u):(w.alloc (.cells #[.int .i64 t] 3)).cell? (Addr.add ⟨w.heap.size,0,none⟩ j)=some u:=uy w #[.int .i64 t] 3 j u h
theorem M6(w:World)(t:Int)(k:Nat)(hk:w.heap.size=k)(j:Nat)(u:Value)(h: [Value.int .i64 t][j]? =some u):(w.alloc (.cells #[.int .i64 t] 3)).drew.cell? (Addr.add ⟨k,0,none⟩ j)=some u:=by subst hk;exact GK w t j u h
theorem vJ(t:Int):∀u∈ [Value.int .i64 t],u.oneCell'=true:=by intro u hu;simp at hu;subst hu;rfl
theorem aoC{v:Int}(h:fI w b base (.slice (some ⟨g,0,none⟩) M.length c) nv ov lv V)(hM:jc w g vs M)(hn:V.num[s]? =some v)(hv:v≠ -1):
 Calls prog 69 #[.pointer (some ⟨b,0,none⟩),.int .i64 (s:Int)] w (yd w b base g (.slice (some ⟨g,0,none⟩) M.length c) nv ov lv vs M V):=by
 have aw:=(Ah.1 hn).1;obtain⟨gn,cn,rfl,g1,g2,g3,g4,g5⟩:=my h.num (by omega);have c1:w.cell? ⟨b,1,none⟩=some (.slice (some ⟨gn,0,none⟩) V.num.length cn):=h.ak.cell 1;have cs:w.cell? ⟨gn,s,none⟩=some (.int .i64 v):=by rw[g4 s aw];simp[cH,hn]
 have hd:(v== -1)=false:=by simpa using hv
 have og:¬((V.num.length:Int)<=(s:Int)):=by omega
 have Ov:=ab (And.intro h hM);clear h hM g4 g5 hn hv;go_in;go_wp2_with fail;go_end0;exact⟨rfl,ov,lv,Ov.out.1,Ov.out.2,kI.refl _ _ _ _ _⟩
theorem fI.fz(h:fI w b base sv (.slice (some ⟨gn,0,none⟩) nn cn) ov lv V)(s:Nat):w.frozen? ⟨gn,s,none⟩=false:=by
 rcases h.num.2 with⟨h1,_⟩|⟨g',cap,aL,hv,a1,a2,_⟩
 ·cases h1
 ·cases hv;simp[World.frozen?,a2]
theorem fI.nZ(h:fI w b base sv (.slice (some ⟨gn,0,none⟩) nn cn) ov lv V)(hs:s<V.num.length):∃u,w.cell? ⟨gn,s,none⟩=some (.int .i64 u):=by
 obtain⟨g',c',hx,_,_,_,h4,_⟩:=my h.num (by omega)
 cases hx;exact⟨V.num[s],by rw[h4 s hs];simp[cH,hs]⟩
def zF(b:Nat)(nv ov:Value)(w':World):Prop:=w'.cell? ⟨b,1,none⟩=some nv/\w'.cell? ⟨b,2,none⟩=some ov
theorem RA{W5:World}{xx yL:Value}{V4:VS}(h5:fI W5 b base sv (.slice (some ⟨gn,0,none⟩) nn cn) xx yL ⟨V4.num.set s (V4.aK.length:Int),V4.aK,V4.bC⟩)(hM5:jc W5 g vs M)(k5:kI b w W5 (.slice (some ⟨gn,0,none⟩) nn cn) ov lv xx yL)(kO:g<base):
 (∀W,aa af W5 W->W.ownsRow base 3 1 xx V4.aK.length (nJ V4.aK))/\
 (∀W w7 jn,aa af W5 W->w7.ownsRow base 3 1 jn (V4.aK.length+1) (nJ V4.aK++[.int .i64 (s:Int)])->W.grownBy w7 xx.ownBlock->(jn.ownBlock=xx.ownBlock\/jn.ownBlock=some W.heap.size)->
   aq w7 b #[sv,.slice (some ⟨gn,0,none⟩) nn cn,xx,yL] 147/\fI (w7.setCell ⟨b,2,none⟩ jn) b base sv (.slice (some ⟨gn,0,none⟩) nn cn) jn yL (V4.put s)/\jc (w7.setCell ⟨b,2,none⟩ jn) g vs M/\kI b w (w7.setCell ⟨b,2,none⟩ jn) (.slice (some ⟨gn,0,none⟩) nn cn) ov lv jn yL):=by
 refine⟨fun W kW=>bR h5.aK kW (fun i _ hx=>hx),fun W w7 jn kW ho hg hl=>?_⟩;obtain⟨r1,r2,r3⟩:=h5.alD s kW ho hg hl;exact⟨r1,r2,hM5.kept r3.kept (fun hx=>by have:=h5.au hx;omega),k5.trans r3⟩
theorem jc.rW(h:jc w g vs M)(az:g≠gn)(u:Value):jc (w.setCell ⟨gn,s,none⟩ u) g vs M:=h.kept ((aa.refl (fun i=>i=gn) _).setCell (p:=⟨gn,s,none⟩) (Or.inl rfl) _) az
theorem aoG(h:fI w b base (.slice (some ⟨g,0,none⟩) M.length c) nv ov lv V)(hM:jc w g vs M)(kO:g<base)(hn:V.num[s]? =some (-1))(hm:M[s]? =some m)(hk:m.kind≠1/\m.kind≠2/\m.kind≠3/\m.kind≠4)(dh:V.aK.length<=9000):
 Calls prog 69 #[.pointer (some ⟨b,0,none⟩),.int .i64 (s:Int)] w (yd w b base g (.slice (some ⟨g,0,none⟩) M.length c) nv ov lv vs M (V.put s)):=by
 have aw:=(Ah.1 hn).1;obtain⟨i0,cP,di,dj,cY⟩:=Bo Tryz.Gw;obtain⟨gn,cn,rfl,g1,g2,g3,g4,g5⟩:=my h.num (by omega);obtain⟨AR,q,⟨q1,q2,q3⟩,qc⟩:=hM.JE hm;obtain⟨qk,bP,b_,bQ,bH,ff,BV,BY⟩:=q;simp only at q1 q2 q3 qc;subst q1 q2 q3;have gz:=h.ak.lt;have c0:w.cell? ⟨b,0,none⟩=some (.slice (some ⟨g,0,none⟩) M.length c):=h.ak.cell 0;have c1:w.cell? ⟨b,1,none⟩=some (.slice (some ⟨gn,0,none⟩) V.num.length cn):=h.ak.cell 1;have cs:w.cell? ⟨gn,s,none⟩=some (.int .i64 (-1)):=by rw[g4 s aw];simp[cH,hn]
 have og:¬((V.num.length:Int)<=(s:Int)):=by omega
 have lr:¬((M.length:Int)<=(s:Int)):=by omega
 obtain⟨d0,d1,d2,d3,d4,d5⟩:=qc w hM;have h1:=h.new ((aa.refl af w).alloc (.cells #[.int .i64 m.kind,.slice bP b_ bQ,.int .i64 bH,.int .i64 ff,.int .i64 m.next,.int .i64 m.a_] 113));have iK:=hM.kept ((aa.refl af w).alloc (.cells #[.int .i64 m.kind,.slice bP b_ bQ,.int .i64 bH,.int .i64 ff,.int .i64 m.next,.int .i64 m.a_] 113)) (fun hx=>hx);have w1:=(kI.refl b w (.slice (some ⟨gn,0,none⟩) V.num.length cn) ov lv).new ((aa.refl af w).alloc (.cells #[.int .i64 m.kind,.slice bP b_ bQ,.int .i64 bH,.int .i64 ff,.int .i64 m.next,.int .i64 m.a_] 113));have L1:=aq.new w #[.int .i64 m.kind,.slice bP b_ bQ,.int .i64 bH,.int .i64 ff,.int .i64 m.next,.int .i64 m.a_] 113;have n1:¬mX b (.slice (some ⟨gn,0,none⟩) V.num.length cn) ov lv w.heap.size:=fun hx=>by have:=h.au hx;omega
 have k1:(m.kind==1)=false:=by simpa using hk.1
 have k2:(m.kind==2)=false:=by simpa using hk.2.1
 have k3:(m.kind==3)=false:=by simpa using hk.2.2.1
 have k4:(m.kind==4)=false:=by simpa using hk.2.2.2
 have CE:w.frozen? ⟨gn,s,none⟩=false:=g5 s;have EZ:gn≠b:=(h.an gn rfl).1;have UB:b≠gn:=fun e=>EZ e.symm
 have EW:g≠gn:=by omega
 obtain⟨je,kL,F_⟩:=cA h.aK;subst F_;have E1:(w).cell? ⟨b,1,none⟩=some (.slice (some ⟨gn,0,none⟩) V.num.length cn):=h.ak.cell 1;have E2:(w).cell? ⟨b,2,none⟩=some (.slice je (V).aK.length kL):=h.ak.cell 2;have TS:Hid (zF b (.slice (some ⟨gn,0,none⟩) V.num.length cn) (.slice je (V).aK.length kL) (w.alloc (.cells #[.int .i64 m.kind,.slice bP b_ bQ,.int .i64 bH,.int .i64 ff,.int .i64 m.next,.int .i64 m.a_] 113)).drew):=⟨h1.ak.cell 1,h1.ak.cell 2⟩;obtain⟨HR,GR⟩:=RA (((h.rW s (V.aK.length:Int)).new ((aa.refl af _).alloc (.cells #[.int .i64 m.kind,.slice bP b_ bQ,.int .i64 bH,.int .i64 ff,.int .i64 m.next,.int .i64 m.a_] 113))).new ((aa.refl af _).drew)) (((hM.rW EW _).kept ((aa.refl af _).alloc (.cells #[.int .i64 m.kind,.slice bP b_ bQ,.int .i64 bH,.int .i64 ff,.int .i64 m.next,.int .i64 m.a_] 113)) (fun hx=>hx)).kept ((aa.refl af _).drew) (fun hx=>hx)) ((((kI.refl b w (.slice (some ⟨gn,0,none⟩) V.num.length cn) (.slice je V.aK.length kL) lv).rW _).new ((aa.refl af _).alloc (.cells #[.int .i64 m.kind,.slice bP b_ bQ,.int .i64 bH,.int .i64 ff,.int .i64 m.next,.int .i64 m.a_] 113))).new ((aa.refl af _).drew)) kO;have HR:=ab HR;have GR:=ab GR;have FZ:(w).frozen? ⟨gn,s,none⟩=false:=CE;have SZ:Hid (base<=(w).heap.size):=by have:=h.bb;have:=h.ak.lt;show _<=_;omega
 clear h hM g4 g5 hn hm qc h1 iK w1 L1 n1 hk;go_in;go_wp2_with fail;refine gW (S:=zF b (.slice (some ⟨gn,0,none⟩) V.num.length cn) (.slice je (V).aK.length kL)) 11 (by kernel_rfl) rfl rfl rfl (by kernel_rfl) (by kernel_rfl) ?_;have aj:=TS.out;refine ai 0 52 (.pointer (some ⟨b,0,none⟩)) aj ?_;refine ai 1 53 (.pointer (some ⟨b,0,none⟩)) aj ?_;refine ai 2 54 (.pointer (some ⟨b,1,none⟩)) aj ?_;refine ai 3 55 (.slice (some ⟨gn,0,none⟩) V.num.length cn) aj ?_;refine ai 4 56 (.int .i64 (s:Int)) aj ?_;refine ai 5 57 (.pointer (some ⟨b,0,none⟩)) aj ?_;refine ai 6 58 (.pointer (some ⟨b,0,none⟩)) aj ?_;refine ai 7 59 (.pointer (some ⟨b,2,none⟩)) aj ?_;refine ai 8 60 (.slice je (V).aK.length kL) aj ?_;refine ai 9 61 (.int .i64 ((V).aK.length:Int)) aj ?_;refine ai 10 62 (.pointer (some ⟨gn,s,none⟩)) aj ?_;simp only[Act.put,Aa,Ad,Ac];refine At (by kernel_rfl) ?_ _;unfold eJ;clear aj;simp only[Al,Ag,Ai];go_simp;go_wp2_with (at_builtin;refine Ao _ rfl _ _ 22 rfl base 3 i0 _ 1 8 underlying22 cP di dj cY rfl (by decide) _ _ _ rfl (HR.out _ ((aa.refl _ _).alloc _)) _ 1 1 [.int .i64 (s:Int)] rfl rfl ?c1 ?c2 ?c3 ?c4 ?c5 ?_)
 case c1=>exact M6 _ (s:Int) _ (by simp)
 case c2=>exact vJ _
 case c3=>unfold maxLen;omega
 case c4=>omega
 case c5=>have:=SZ.out;simp;omega
 intro v' w7 bG bY dX cx;obtain⟨jd,c',rfl⟩:=cA bG;obtain⟨b7,fZ,DW,aY⟩:=GR.out _ _ _ ((aa.refl _ _).alloc _) bG bY (by simpa using cx);have c7:w7.cell? ⟨b,2,none⟩=some (.slice je (V).aK.length kL):=b7.cell 2;have f7:=b7.frozen 2;clear HR GR TS b7;go_wp2_with fail;go_end0;exact⟨rfl,_,_,fZ,DW,aY⟩
theorem aoE(h:fI w b base (.slice (some ⟨g,0,none⟩) M.length c) nv ov lv V)(hM:jc w g vs M)(kO:g<base)(hn:V.num[s]? =some (-1))(hm:M[s]? =some m)(hk:m.kind=2\/m.kind=3)(hF:(∀W ov lv,fI W b base (.slice (some ⟨g,0,none⟩) M.length c) nv ov lv (V)->jc W g vs M->Calls prog 69 #[.pointer (some ⟨b,0,none⟩),.int .i64 m.next] W (yd W b base g (.slice (some ⟨g,0,none⟩) M.length c) nv ov lv vs M (V'))))(lN:V'.num.length=V.num.length)(dh:V'.aK.length<=9000):
 Calls prog 69 #[.pointer (some ⟨b,0,none⟩),.int .i64 (s:Int)] w (yd w b base g (.slice (some ⟨g,0,none⟩) M.length c) nv ov lv vs M (V'.put s)):=by
 have aw:=(Ah.1 hn).1;obtain⟨i0,cP,di,dj,cY⟩:=Bo Tryz.Gw;obtain⟨gn,cn,rfl,g1,g2,g3,g4,g5⟩:=my h.num (by omega);obtain⟨AR,q,⟨q1,q2,q3⟩,qc⟩:=hM.JE hm;obtain⟨qk,bP,b_,bQ,bH,ff,BV,BY⟩:=q;simp only at q1 q2 q3 qc;subst q1 q2 q3;have gz:=h.ak.lt;have c0:w.cell? ⟨b,0,none⟩=some (.slice (some ⟨g,0,none⟩) M.length c):=h.ak.cell 0;have c1:w.cell? ⟨b,1,none⟩=some (.slice (some ⟨gn,0,none⟩) V.num.length cn):=h.ak.cell 1;have cs:w.cell? ⟨gn,s,none⟩=some (.int .i64 (-1)):=by rw[g4 s aw];simp[cH,hn]
 have og:¬((V.num.length:Int)<=(s:Int)):=by omega
 have lr:¬((M.length:Int)<=(s:Int)):=by omega
 obtain⟨d0,d1,d2,d3,d4,d5⟩:=qc w hM;have h1:=h.new ((aa.refl af w).alloc (.cells #[.int .i64 m.kind,.slice bP b_ bQ,.int .i64 bH,.int .i64 ff,.int .i64 m.next,.int .i64 m.a_] 113));have iK:=hM.kept ((aa.refl af w).alloc (.cells #[.int .i64 m.kind,.slice bP b_ bQ,.int .i64 bH,.int .i64 ff,.int .i64 m.next,.int .i64 m.a_] 113)) (fun hx=>hx);have w1:=(kI.refl b w (.slice (some ⟨gn,0,none⟩) V.num.length cn) ov lv).new ((aa.refl af w).alloc (.cells #[.int .i64 m.kind,.slice bP b_ bQ,.int .i64 bH,.int .i64 ff,.int .i64 m.next,.int .i64 m.a_] 113));have L1:=aq.new w #[.int .i64 m.kind,.slice bP b_ bQ,.int .i64 bH,.int .i64 ff,.int .i64 m.next,.int .i64 m.a_] 113;have n1:¬mX b (.slice (some ⟨gn,0,none⟩) V.num.length cn) ov lv w.heap.size:=fun hx=>by have:=h.au hx;omega
 have F1:=hF _ ov lv h1 iK;have F1:=ab F1;have k1:(m.kind==1)=false:=by rcases hk with e|e<;>simp[e]
 have PK:=ab (And.intro w1 h1);have HGB:=ab kO;clear h hM g4 g5 hn hm qc h1 iK w1 L1 n1 hF;rcases(show((m.kind==2)=true)\/((m.kind==2)=false/\(m.kind==3)=true) by rcases hk with e|e<;>simp[e])with e|⟨e,e'⟩
 all_goals
  clear hk;go_in;go_wp2_with fail;refine(F1.out).mono ?_;rintro e2 w4 ⟨rfl,xx,yL,h4,tQ,jk⟩;have qJ:=PK.out.1.trans jk;have CE:=h4.fz s;obtain⟨u4,XL⟩:=h4.nZ (s:=s) (by first|omega|(simp only[VS.iu];omega));have EZ:gn≠b:=(h4.an gn rfl).1;have UB:b≠gn:=fun e=>EZ e.symm
  have EW:g≠gn:=by omega
  obtain⟨je,kL,F_⟩:=cA h4.aK;subst F_;have E1:(w4).cell? ⟨b,1,none⟩=some (.slice (some ⟨gn,0,none⟩) V.num.length cn):=h4.ak.cell 1;have E2:(w4).cell? ⟨b,2,none⟩=some (.slice je (V').aK.length kL):=h4.ak.cell 2;have TS:Hid (zF b (.slice (some ⟨gn,0,none⟩) V.num.length cn) (.slice je (V').aK.length kL) (w4).drew):=⟨h4.ak.cell 1,h4.ak.cell 2⟩;obtain⟨HR,GR⟩:=RA ((h4.rW s ((V').aK.length:Int)).new ((aa.refl af _).drew)) ((tQ.rW EW _).kept ((aa.refl af _).drew) (fun hx=>hx)) ((qJ.rW _).new ((aa.refl af _).drew)) kO;have HR:=ab HR;have GR:=ab GR;have FZ:(w4).frozen? ⟨gn,s,none⟩=false:=CE;have SZ:Hid (base<=(w4).heap.size):=by have:=h4.bb;have:=h4.ak.lt;show _<=_;omega
  clear h4 tQ qJ jk PK F1 E1 kO;go_wp2_with fail;refine gW (S:=zF b (.slice (some ⟨gn,0,none⟩) V.num.length cn) (.slice je (V').aK.length kL)) 11 (by kernel_rfl) rfl rfl rfl (by kernel_rfl) (by kernel_rfl) ?_;have aj:=TS.out;refine ai 0 52 (.pointer (some ⟨b,0,none⟩)) aj ?_;refine ai 1 53 (.pointer (some ⟨b,0,none⟩)) aj ?_;refine ai 2 54 (.pointer (some ⟨b,1,none⟩)) aj ?_;refine ai 3 55 (.slice (some ⟨gn,0,none⟩) V.num.length cn) aj ?_;refine ai 4 56 (.int .i64 (s:Int)) aj ?_;refine ai 5 57 (.pointer (some ⟨b,0,none⟩)) aj ?_;refine ai 6 58 (.pointer (some ⟨b,0,none⟩)) aj ?_;refine ai 7 59 (.pointer (some ⟨b,2,none⟩)) aj ?_;refine ai 8 60 (.slice je (V').aK.length kL) aj ?_;refine ai 9 61 (.int .i64 ((V').aK.length:Int)) aj ?_;refine ai 10 62 (.pointer (some ⟨gn,s,none⟩)) aj ?_;simp only[Act.put,Aa,Ad,Ac];refine At (by kernel_rfl) ?_ _;unfold eJ;clear aj;simp only[Al,Ag,Ai];go_simp;go_wp2_with (at_builtin;refine Ao _ rfl _ _ 22 rfl base 3 i0 _ 1 8 underlying22 cP di dj cY rfl (by decide) _ _ _ rfl (HR.out _ ((aa.refl _ _).alloc _)) _ 1 1 [.int .i64 (s:Int)] rfl rfl ?c1 ?c2 ?c3 ?c4 ?c5 ?_)
  case c1=>exact M6 _ (s:Int) _ (by simp)
  case c2=>exact vJ _
  case c3=>unfold maxLen;omega
  case c4=>omega
  case c5=>have:=SZ.out;simp;omega
  intro v' w7 bG bY dX cx;obtain⟨jd,c',rfl⟩:=cA bG;obtain⟨b7,fZ,DW,aY⟩:=GR.out _ _ _ ((aa.refl _ _).alloc _) bG bY (by simpa using cx);have c7:w7.cell? ⟨b,2,none⟩=some (.slice je (V').aK.length kL):=b7.cell 2;have f7:=b7.frozen 2;clear HR GR TS b7;go_wp2_with fail;go_end0;exact⟨rfl,_,_,fZ,DW,aY⟩
theorem aoI(h:fI w b base (.slice (some ⟨g,0,none⟩) M.length c) nv ov lv V)(hM:jc w g vs M)(kO:g<base)(hn:V.num[s]? =some (-1))(hm:M[s]? =some m)(hk:m.kind=4){V2:VS}(hF:(∀W ov lv,fI W b base (.slice (some ⟨g,0,none⟩) M.length c) nv ov lv (V)->jc W g vs M->Calls prog 69 #[.pointer (some ⟨b,0,none⟩),.int .i64 m.next] W (yd W b base g (.slice (some ⟨g,0,none⟩) M.length c) nv ov lv vs M (V'))))(hF2:(∀W ov lv,fI W b base (.slice (some ⟨g,0,none⟩) M.length c) nv ov lv (V')->jc W g vs M->Calls prog 69 #[.pointer (some ⟨b,0,none⟩),.int .i64 m.a_] W (yd W b base g (.slice (some ⟨g,0,none⟩) M.length c) nv ov lv vs M (V2))))(apX:V'.num.length=V.num.length)(lN:V2.num.length=V.num.length)(dh:V2.aK.length<=9000):
 Calls prog 69 #[.pointer (some ⟨b,0,none⟩),.int .i64 (s:Int)] w (yd w b base g (.slice (some ⟨g,0,none⟩) M.length c) nv ov lv vs M (V2.put s)):=by
 have aw:=(Ah.1 hn).1;obtain⟨i0,cP,di,dj,cY⟩:=Bo Tryz.Gw;obtain⟨gn,cn,rfl,g1,g2,g3,g4,g5⟩:=my h.num (by omega);obtain⟨AR,q,⟨q1,q2,q3⟩,qc⟩:=hM.JE hm;obtain⟨qk,bP,b_,bQ,bH,ff,BV,BY⟩:=q;simp only at q1 q2 q3 qc;subst q1 q2 q3;have gz:=h.ak.lt;have c0:w.cell? ⟨b,0,none⟩=some (.slice (some ⟨g,0,none⟩) M.length c):=h.ak.cell 0;have c1:w.cell? ⟨b,1,none⟩=some (.slice (some ⟨gn,0,none⟩) V.num.length cn):=h.ak.cell 1;have cs:w.cell? ⟨gn,s,none⟩=some (.int .i64 (-1)):=by rw[g4 s aw];simp[cH,hn]
 have og:¬((V.num.length:Int)<=(s:Int)):=by omega
 have lr:¬((M.length:Int)<=(s:Int)):=by omega
 obtain⟨d0,d1,d2,d3,d4,d5⟩:=qc w hM;have h1:=h.new ((aa.refl af w).alloc (.cells #[.int .i64 m.kind,.slice bP b_ bQ,.int .i64 bH,.int .i64 ff,.int .i64 m.next,.int .i64 m.a_] 113));have iK:=hM.kept ((aa.refl af w).alloc (.cells #[.int .i64 m.kind,.slice bP b_ bQ,.int .i64 bH,.int .i64 ff,.int .i64 m.next,.int .i64 m.a_] 113)) (fun hx=>hx);have w1:=(kI.refl b w (.slice (some ⟨gn,0,none⟩) V.num.length cn) ov lv).new ((aa.refl af w).alloc (.cells #[.int .i64 m.kind,.slice bP b_ bQ,.int .i64 bH,.int .i64 ff,.int .i64 m.next,.int .i64 m.a_] 113));have L1:=aq.new w #[.int .i64 m.kind,.slice bP b_ bQ,.int .i64 bH,.int .i64 ff,.int .i64 m.next,.int .i64 m.a_] 113;have n1:¬mX b (.slice (some ⟨gn,0,none⟩) V.num.length cn) ov lv w.heap.size:=fun hx=>by have:=h.au hx;omega
 have F1:=hF _ ov lv h1 iK;have F1:=ab F1;have J6:=ab hF2;have PK:=ab (And.intro (And.intro w1 h1) (And.intro L1 n1));clear h hM g4 g5 hn hm qc h1 iK w1 L1 n1 hF hF2;have k1:(m.kind==1)=false:=by simp[hk]
 have k2:(m.kind==2)=false:=by simp[hk]
 have k3:(m.kind==3)=false:=by simp[hk]
 have k4:(m.kind==4)=true:=by simp[hk]
 clear hk;go_in;go_wp2_with fail;refine(F1.out).mono ?_;rintro e2 w3 ⟨rfl,ov3,lv3,h3,Ly,VL⟩;have kk3:=PK.out.1.1.trans VL;have L3:=PK.out.2.1.kept VL.kept PK.out.2.2;have l5:w3.cell? ⟨w.heap.size,5,none⟩=some (.int .i64 m.a_):=L3.cell 5;have F2:=ab (J6.out _ _ _ h3 Ly);have K3:=ab kk3;clear h3 Ly VL kk3 L3 J6 PK F1;go_wp2_with fail;refine(F2.out).mono ?_;rintro e2 w4 ⟨rfl,xx,yL,h4,tQ,jk⟩;have qJ:=K3.out.trans jk;have CE:=h4.fz s;obtain⟨u4,XL⟩:=h4.nZ (s:=s) (by omega);have EZ:gn≠b:=(h4.an gn rfl).1;have UB:b≠gn:=fun e=>EZ e.symm
 have EW:g≠gn:=by omega
 obtain⟨je,kL,F_⟩:=cA h4.aK;subst F_;have E1:(w4).cell? ⟨b,1,none⟩=some (.slice (some ⟨gn,0,none⟩) V.num.length cn):=h4.ak.cell 1;have E2:(w4).cell? ⟨b,2,none⟩=some (.slice je (V2).aK.length kL):=h4.ak.cell 2;have TS:Hid (zF b (.slice (some ⟨gn,0,none⟩) V.num.length cn) (.slice je (V2).aK.length kL) (w4).drew):=⟨h4.ak.cell 1,h4.ak.cell 2⟩;obtain⟨HR,GR⟩:=RA ((h4.rW s ((V2).aK.length:Int)).new ((aa.refl af _).drew)) ((tQ.rW EW _).kept ((aa.refl af _).drew) (fun hx=>hx)) ((qJ.rW _).new ((aa.refl af _).drew)) kO;have HR:=ab HR;have GR:=ab GR;have FZ:(w4).frozen? ⟨gn,s,none⟩=false:=CE;have SZ:Hid (base<=(w4).heap.size):=by have:=h4.bb;have:=h4.ak.lt;show _<=_;omega
 clear h4 tQ qJ jk K3 F2 E1;go_wp2_with fail;refine gW (S:=zF b (.slice (some ⟨gn,0,none⟩) V.num.length cn) (.slice je (V2).aK.length kL)) 11 (by kernel_rfl) rfl rfl rfl (by kernel_rfl) (by kernel_rfl) ?_;have aj:=TS.out;refine ai 0 52 (.pointer (some ⟨b,0,none⟩)) aj ?_;refine ai 1 53 (.pointer (some ⟨b,0,none⟩)) aj ?_;refine ai 2 54 (.pointer (some ⟨b,1,none⟩)) aj ?_;refine ai 3 55 (.slice (some ⟨gn,0,none⟩) V.num.length cn) aj ?_;refine ai 4 56 (.int .i64 (s:Int)) aj ?_;refine ai 5 57 (.pointer (some ⟨b,0,none⟩)) aj ?_;refine ai 6 58 (.pointer (some ⟨b,0,none⟩)) aj ?_;refine ai 7 59 (.pointer (some ⟨b,2,none⟩)) aj ?_;refine ai 8 60 (.slice je (V2).aK.length kL) aj ?_;refine ai 9 61 (.int .i64 ((V2).aK.length:Int)) aj ?_;refine ai 10 62 (.pointer (some ⟨gn,s,none⟩)) aj ?_;simp only[Act.put,Aa,Ad,Ac];refine At (by kernel_rfl) ?_ _;unfold eJ;clear aj;simp only[Al,Ag,Ai];go_simp;go_wp2_with (at_builtin;refine Ao _ rfl _ _ 22 rfl base 3 i0 _ 1 8 underlying22 cP di dj cY rfl (by decide) _ _ _ rfl (HR.out _ ((aa.refl _ _).alloc _)) _ 1 1 [.int .i64 (s:Int)] rfl rfl ?c1 ?c2 ?c3 ?c4 ?c5 ?_)
 case c1=>exact M6 _ (s:Int) _ (by simp)
 case c2=>exact vJ _
 case c3=>unfold maxLen;omega
 case c4=>omega
 case c5=>have:=SZ.out;simp;omega
 intro v' w7 bG bY dX cx;obtain⟨jd,c',rfl⟩:=cA bG;obtain⟨b7,fZ,DW,aY⟩:=GR.out _ _ _ ((aa.refl _ _).alloc _) bG bY (by simpa using cx);have c7:w7.cell? ⟨b,2,none⟩=some (.slice je (V2).aK.length kL):=b7.cell 2;have f7:=b7.frozen 2;clear HR GR TS b7;go_wp2_with fail;go_end0;exact⟨rfl,_,_,fZ,DW,aY⟩
theorem aoH(h:fI w b base (.slice (some ⟨g,0,none⟩) M.length c) nv ov lv V)(hM:jc w g vs M)(kO:g<base)(hn:V.num[s]? =some (-1))(hm:M[s]? =some m)(hk:m.kind=1)(o_:0<=m.next)(dh:V.aK.length<=9000)(oY:V.bC.length<=9000):
 Calls prog 69 #[.pointer (some ⟨b,0,none⟩),.int .i64 (s:Int)] w (yd w b base g (.slice (some ⟨g,0,none⟩) M.length c) nv ov lv vs M ((V.iu m.next.toNat).put s)):=by
 have aw:=(Ah.1 hn).1;obtain⟨i0,cP,di,dj,cY⟩:=Bo Tryz.Gw;obtain⟨gn,cn,rfl,g1,g2,g3,g4,g5⟩:=my h.num (by omega);obtain⟨AR,q,⟨q1,q2,q3⟩,qc⟩:=hM.JE hm;obtain⟨qk,bP,b_,bQ,bH,ff,BV,BY⟩:=q;simp only at q1 q2 q3 qc;subst q1 q2 q3;have gz:=h.ak.lt;have c0:w.cell? ⟨b,0,none⟩=some (.slice (some ⟨g,0,none⟩) M.length c):=h.ak.cell 0;have c1:w.cell? ⟨b,1,none⟩=some (.slice (some ⟨gn,0,none⟩) V.num.length cn):=h.ak.cell 1;have cs:w.cell? ⟨gn,s,none⟩=some (.int .i64 (-1)):=by rw[g4 s aw];simp[cH,hn]
 have og:¬((V.num.length:Int)<=(s:Int)):=by omega
 have lr:¬((M.length:Int)<=(s:Int)):=by omega
 obtain⟨d0,d1,d2,d3,d4,d5⟩:=qc w hM;have h1:=h.new ((aa.refl af w).alloc (.cells #[.int .i64 m.kind,.slice bP b_ bQ,.int .i64 bH,.int .i64 ff,.int .i64 m.next,.int .i64 m.a_] 113));have iK:=hM.kept ((aa.refl af w).alloc (.cells #[.int .i64 m.kind,.slice bP b_ bQ,.int .i64 bH,.int .i64 ff,.int .i64 m.next,.int .i64 m.a_] 113)) (fun hx=>hx);have w1:=(kI.refl b w (.slice (some ⟨gn,0,none⟩) V.num.length cn) ov lv).new ((aa.refl af w).alloc (.cells #[.int .i64 m.kind,.slice bP b_ bQ,.int .i64 bH,.int .i64 ff,.int .i64 m.next,.int .i64 m.a_] 113));have L1:=aq.new w #[.int .i64 m.kind,.slice bP b_ bQ,.int .i64 bH,.int .i64 ff,.int .i64 m.next,.int .i64 m.a_] 113;have n1:¬mX b (.slice (some ⟨gn,0,none⟩) V.num.length cn) ov lv w.heap.size:=fun hx=>by have:=h.au hx;omega
 obtain⟨yf,DM,FP⟩:=cA h.bC;subst FP;have c3:w.cell? ⟨b,3,none⟩=some (.slice yf V.bC.length DM):=h.ak.cell 3;have ajd:((m.next.toNat:Nat):Int)=m.next:=by omega
 have LR:Hid (∀W,aa af (w.alloc (.cells #[.int .i64 m.kind,.slice bP b_ bQ,.int .i64 bH,.int .i64 ff,.int .i64 m.next,.int .i64 m.a_] 113)) W->W.ownsRow base 3 1 (.slice yf V.bC.length DM) V.bC.length (nJ V.bC)):=fun W k=>bR h1.bC k (fun i _ hx=>hx)
 have LG:Hid (∀W w7 dc,aa af (w.alloc (.cells #[.int .i64 m.kind,.slice bP b_ bQ,.int .i64 bH,.int .i64 ff,.int .i64 m.next,.int .i64 m.a_] 113)) W->w7.ownsRow base 3 1 dc (V.bC.length+1) (nJ V.bC++[.int .i64 m.next])->W.grownBy w7 (Value.slice yf V.bC.length DM).ownBlock->(dc.ownBlock=(Value.slice yf V.bC.length DM).ownBlock\/dc.ownBlock=some W.heap.size)->aq w7 b #[(.slice (some ⟨g,0,none⟩) M.length c),(.slice (some ⟨gn,0,none⟩) V.num.length cn),ov,.slice yf V.bC.length DM] 147/\fI (w7.setCell ⟨b,3,none⟩ dc) b base (.slice (some ⟨g,0,none⟩) M.length c) (.slice (some ⟨gn,0,none⟩) V.num.length cn) ov dc (V.iu m.next.toNat)/\jc (w7.setCell ⟨b,3,none⟩ dc) g vs M/\kI b w (w7.setCell ⟨b,3,none⟩ dc) (.slice (some ⟨gn,0,none⟩) V.num.length cn) ov (.slice yf V.bC.length DM) ov dc):=fun W w7 dc k ho hg hl=>by
  rw[<-ajd]at ho;obtain⟨r1,r2,r3⟩:=h1.akn m.next.toNat k ho hg hl
  exact⟨r1,r2,iK.kept r3.kept (fun hx=>by have:=h1.au hx;omega),w1.trans r3⟩
 have SZ0:Hid (base<=w.heap.size):=by have:=h.bb;show _<=_;omega
 have NW:Hid (∀j u,[Value.int .i64 m.next][j]? =some u->(((w.alloc (.cells #[.int .i64 m.kind,.slice bP b_ bQ,.int .i64 bH,.int .i64 ff,.int .i64 m.next,.int .i64 m.a_] 113)).alloc (.cells #[.int .i64 m.next] 3)).drew).cell? (Addr.add ⟨w.heap.size+1,0,none⟩ j)=some u):=fun j u hu=>M6 _ m.next _ (by simp) j u hu
 clear h hM g4 g5 hn hm qc h1 iK w1 L1 n1;have k1:(m.kind==1)=true:=by simp[hk]
 clear hk;go_in;go_wp2_with fail;go_region_law (refine Rx rfl (.tmp 28) (.tmp 31) 22 rfl base 3 i0 _ 1 8 underlying22 cP di dj cY rfl (by decide) _ _ _ rfl (LR.out _ (by repeat first|exact aa.refl _ _|apply aa.alloc|apply aa.drew|apply aa.drewN)) ⟨w.heap.size+1,0,none⟩ 1 1 [.int .i64 m.next] rfl rfl NW.out (vJ _) (by unfold maxLen;omega) (by omega) (by have:=SZ0.out;simp;omega) ?_;intro v' w7 ho hg hl;obtain⟨jd,c',rfl⟩:=cA ho;obtain⟨b7,h4,tQ,k4⟩:=LG.out _ _ _ (by repeat first|exact aa.refl _ _|apply aa.alloc|apply aa.drew|apply aa.drewN) ho hg hl;have c7:w7.cell? ⟨b,3,none⟩=some (.slice yf V.bC.length DM):=b7.cell 3;have f7:w7.frozen? ⟨b,3,none⟩=false:=b7.frozen 3)
 all_goals
  generalize w7.setCell ⟨b,3,none⟩ (.slice jd (V.bC.length+1) c')=w4 at*
  have qJ:=k4;have dh:(V.iu m.next.toNat).aK.length<=9000:=dh;have CE:=h4.fz s;obtain⟨u4,XL⟩:=h4.nZ (s:=s) (by first|omega|(simp only[VS.iu];omega));have EZ:gn≠b:=(h4.an gn rfl).1;have UB:b≠gn:=fun e=>EZ e.symm
  have EW:g≠gn:=by omega
  obtain⟨je,kL,F_⟩:=cA h4.aK;subst F_;have E1:(w4).cell? ⟨b,1,none⟩=some (.slice (some ⟨gn,0,none⟩) V.num.length cn):=h4.ak.cell 1;have E2:(w4).cell? ⟨b,2,none⟩=some (.slice je (V.iu m.next.toNat).aK.length kL):=h4.ak.cell 2;have TS:Hid (zF b (.slice (some ⟨gn,0,none⟩) V.num.length cn) (.slice je (V.iu m.next.toNat).aK.length kL) (w4).drew):=⟨h4.ak.cell 1,h4.ak.cell 2⟩;obtain⟨HR,GR⟩:=RA ((h4.rW s ((V.iu m.next.toNat).aK.length:Int)).new ((aa.refl af _).drew)) ((tQ.rW EW _).kept ((aa.refl af _).drew) (fun hx=>hx)) ((qJ.rW _).new ((aa.refl af _).drew)) kO;have HR:=ab HR;have GR:=ab GR;have FZ:(w4).frozen? ⟨gn,s,none⟩=false:=CE;have SZ:Hid (base<=(w4).heap.size):=by have:=h4.bb;have:=h4.ak.lt;show _<=_;omega
  clear h4 tQ qJ k4 E1 b7 LR LG NW;go_wp2_with fail;refine gW (S:=zF b (.slice (some ⟨gn,0,none⟩) V.num.length cn) (.slice je (V.iu m.next.toNat).aK.length kL)) 11 (by kernel_rfl) rfl rfl rfl (by kernel_rfl) (by kernel_rfl) ?_;have aj:=TS.out;refine ai 0 52 (.pointer (some ⟨b,0,none⟩)) aj ?_;refine ai 1 53 (.pointer (some ⟨b,0,none⟩)) aj ?_;refine ai 2 54 (.pointer (some ⟨b,1,none⟩)) aj ?_;refine ai 3 55 (.slice (some ⟨gn,0,none⟩) V.num.length cn) aj ?_;refine ai 4 56 (.int .i64 (s:Int)) aj ?_;refine ai 5 57 (.pointer (some ⟨b,0,none⟩)) aj ?_;refine ai 6 58 (.pointer (some ⟨b,0,none⟩)) aj ?_;refine ai 7 59 (.pointer (some ⟨b,2,none⟩)) aj ?_;refine ai 8 60 (.slice je (V.iu m.next.toNat).aK.length kL) aj ?_;refine ai 9 61 (.int .i64 ((V.iu m.next.toNat).aK.length:Int)) aj ?_;refine ai 10 62 (.pointer (some ⟨gn,s,none⟩)) aj ?_;simp only[Act.put,Aa,Ad,Ac];refine At (by kernel_rfl) ?_ _;unfold eJ;clear aj;simp only[Al,Ag,Ai];go_simp;go_wp2_with (at_builtin;refine Ao _ rfl _ _ 22 rfl base 3 i0 _ 1 8 underlying22 cP di dj cY rfl (by decide) _ _ _ rfl (HR.out _ ((aa.refl _ _).alloc _)) _ 1 1 [.int .i64 (s:Int)] rfl rfl ?c1 ?c2 ?c3 ?c4 ?c5 ?_)
  case c1=>exact M6 _ (s:Int) _ (by simp)
  case c2=>exact vJ _
  case c3=>unfold maxLen;omega
  case c4=>omega
  case c5=>have:=SZ.out;simp;omega
  intro v' w7 bG bY dX cx;obtain⟨jd,c',rfl⟩:=cA bG;obtain⟨b7,fZ,DW,aY⟩:=GR.out _ _ _ ((aa.refl _ _).alloc _) bG bY (by simpa using cx);have c7:w7.cell? ⟨b,2,none⟩=some (.slice je (V.iu m.next.toNat).aK.length kL):=b7.cell 2;have f7:=b7.frozen 2;clear HR GR TS b7;go_wp2_with fail;go_end0;exact⟨rfl,_,_,fZ,DW,aY⟩
theorem aoF(kO:g<base)(nA:∀(i:Nat) (m:MS),M[i]? =some m->0<=m.next){s:Int}(hv:lh M V s V'):V'.aK.length<=9000->V'.bC.length<=9000->
 ∀W ov lv,fI W b base (.slice (some ⟨g,0,none⟩) M.length c) nv ov lv V->jc W g vs M->Calls prog 69 #[.pointer (some ⟨b,0,none⟩),.int .i64 s] W (yd W b base g (.slice (some ⟨g,0,none⟩) M.length c) nv ov lv vs M V'):=by
 induction hv with
 |aJ V s v hn hv=>intro _ _ W ov lv h hM;exact aoC h hM hn hv
 |stop V s m hn hm hk=>
  intro h1 h2 W ov lv h hM;exact aoG h hM kO hn hm hk (by simp[VS.put]at h1;omega)
 |take V s m hn hm hk=>
  intro h1 h2 W ov lv h hM;exact aoH h hM kO hn hm hk (nA s m hm) (by simp[VS.put,VS.iu]at h1;omega) (by simp[VS.put,VS.iu]at h2;omega)
 |one V V' s m hn hm hk hv ih=>
  intro h1 h2 W ov lv h hM;have gP:V'.aK.length<=9000:=by simp[VS.put]at h1;omega
  exact aoE h hM kO hn hm hk (ih gP h2) hv.grow.1 gP
 |cE V V' V2 s m hn hm hk hv hw ih uh=>
  intro h1 h2 W ov lv h hM;have gP:V2.aK.length<=9000:=by simp[VS.put]at h1;omega
  have h2':V2.bC.length<=9000:=h2;have g1:=hv.grow;have g2:=hw.grow;exact aoI h hM kO hn hm hk (ih (by omega) (by omega)) (uh gP h2') g1.1 (by omega) gP
end Go.Proofs.YtpdnofhackjfdaaGreatDoor
