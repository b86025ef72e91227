/- The sorter's visit does what the mirror says -/
import Derived.Test.YtmbpfhlnifdhgaaGreatDoorP12
set_option linter.unusedVariables false
set_option linter.unusedSimpArgs false
set_option maxRecDepth 100000
set_option maxHeartbeats 4000000
namespace Go.Proofs.YtmbpfhlnifdhgaaGreatDoor
open Go.Proofs.Tryz
open Go.RowKit Go.Maps
variable {C:CT} {Q:Ending->World->Prop} {F a:bu} {p x:Int} {M ms:List MS} {vs:List Sv} {m:MS} {at_ b base c g hi i j lo s:Nat} {K:Nat->Prop} {q:Nv} {y:Option Nat} {T:PT} {t:TypeId} {V V':VS} {lv nv ov v:Value} {W w:World}
theorem apg(h:fH w b base (.slice (some ⟨g,0,none⟩) M.length c) nv ov lv V)(hM:jg w g vs M)(kj:g<base)(hn:V.num[s]? =some (-1))(hm:M[s]? =some m)(hk:m.aT=1)(ic:0<=m.next)(dg:V.aR.length<=9000)(hfl:V.bV.length<=9000):
 Calls prog 54 #[.pointer (some ⟨b,0,none⟩),.int .i64 (s:Int)] w (y9 w b base g (.slice (some ⟨g,0,none⟩) M.length c) nv ov lv vs M ((V.iz m.next.toNat).put s)):=by
 have ar:=(Af.1 hn).1;obtain⟨i0,b_,cE,cI,cH⟩:=A7 Tryz.G9;obtain⟨gn,cn,rfl,g1,g2,g3,g4,g5⟩:=tw h.num (by omega);obtain⟨DO,q,⟨q1,q2,q3⟩,qc⟩:=hM.JW hm;obtain⟨qk,cM,cO,cN,cq,fF,JP,JQ⟩:=q;simp only at q1 q2 q3 qc;subst q1 q2 q3;have gj:=h.ae.lt;have c0:w.cell? ⟨b,0,none⟩=some (.slice (some ⟨g,0,none⟩) M.length c):=h.ae.cell 0;have c1:w.cell? ⟨b,1,none⟩=some (.slice (some ⟨gn,0,none⟩) V.num.length cn):=h.ae.cell 1;have cs:w.cell? ⟨gn,s,none⟩=some (.int .i64 (-1)):=by rw[g4 s ar];simp[iE,hn]
 have ue:¬((V.num.length:Int)<=(s:Int)):=by omega
 have gz:¬((M.length:Int)<=(s:Int)):=by omega
 obtain⟨d0,d1,d2,d3,d4,d5⟩:=qc w hM;have h1:=h.new ((I.refl aq w).alloc (.cells #[.int .i64 m.aT,.slice cM cO cN,.int .i64 cq,.int .i64 fF,.int .i64 m.next,.int .i64 m.ch] 96));have rL:=hM.kept ((I.refl aq w).alloc (.cells #[.int .i64 m.aT,.slice cM cO cN,.int .i64 cq,.int .i64 fF,.int .i64 m.next,.int .i64 m.ch] 96)) (fun hx=>hx);have w1:=(ll.refl b w (.slice (some ⟨gn,0,none⟩) V.num.length cn) ov lv).new ((I.refl aq w).alloc (.cells #[.int .i64 m.aT,.slice cM cO cN,.int .i64 cq,.int .i64 fF,.int .i64 m.next,.int .i64 m.ch] 96));have L1:=ay.new w #[.int .i64 m.aT,.slice cM cO cN,.int .i64 cq,.int .i64 fF,.int .i64 m.next,.int .i64 m.ch] 96;have n1:¬oj b (.slice (some ⟨gn,0,none⟩) V.num.length cn) ov lv w.heap.size:=fun hx=>by have:=h.aN hx;omega
 obtain⟨zc,FT,Mm⟩:=dY h.bV;subst Mm;have c3:w.cell? ⟨b,3,none⟩=some (.slice zc V.bV.length FT):=h.ae.cell 3;have VN:((m.next.toNat:Nat):Int)=m.next:=by omega
 have LR:Hid (∀W,I aq (w.alloc (.cells #[.int .i64 m.aT,.slice cM cO cN,.int .i64 cq,.int .i64 fF,.int .i64 m.next,.int .i64 m.ch] 96)) W->W.ownsRow base 3 1 (.slice zc V.bV.length FT) V.bV.length (oR V.bV)):=fun W k=>dh h1.bV k (fun i _ hx=>hx)
 have LG:Hid (∀W w7 jD,I aq (w.alloc (.cells #[.int .i64 m.aT,.slice cM cO cN,.int .i64 cq,.int .i64 fF,.int .i64 m.next,.int .i64 m.ch] 96)) W->w7.ownsRow base 3 1 jD (V.bV.length+1) (oR V.bV++[.int .i64 m.next])->W.grownBy w7 (Value.slice zc V.bV.length FT).ownBlock->(jD.ownBlock=(Value.slice zc V.bV.length FT).ownBlock\/jD.ownBlock=some W.heap.size)->ay w7 b #[(.slice (some ⟨g,0,none⟩) M.length c),(.slice (some ⟨gn,0,none⟩) V.num.length cn),ov,.slice zc V.bV.length FT] 133/\fH (w7.setCell ⟨b,3,none⟩ jD) b base (.slice (some ⟨g,0,none⟩) M.length c) (.slice (some ⟨gn,0,none⟩) V.num.length cn) ov jD (V.iz m.next.toNat)/\jg (w7.setCell ⟨b,3,none⟩ jD) g vs M/\ll b w (w7.setCell ⟨b,3,none⟩ jD) (.slice (some ⟨gn,0,none⟩) V.num.length cn) ov (.slice zc V.bV.length FT) ov jD):=fun W w7 jD k ho hg hl=>by
  rw[<-VN]at ho;obtain⟨r1,r2,r3⟩:=h1.akC m.next.toNat k ho hg hl
  exact⟨r1,r2,rL.kept r3.kept (fun hx=>by have:=h1.aN hx;omega),w1.trans r3⟩
 have SZ0:Hid (base<=w.heap.size):=by have:=h.bb;show _<=_;omega
 have NW:Hid (∀j u,[Value.int .i64 m.next][j]? =some u->(((w.alloc (.cells #[.int .i64 m.aT,.slice cM cO cN,.int .i64 cq,.int .i64 fF,.int .i64 m.next,.int .i64 m.ch] 96)).alloc (.cells #[.int .i64 m.next] 3)).drew).cell? (Addr.add ⟨w.heap.size+1,0,none⟩ j)=some u):=fun j u hu=>Nl _ m.next _ (by simp) j u hu
 clear h hM g4 g5 hn hm qc h1 rL w1 L1 n1;have k1:(m.aT==1)=true:=by simp[hk]
 clear hk;go_in;go_wp2_with fail;go_region_law (refine E6 rfl (.tmp 28) (.tmp 31) 65 rfl base 3 i0 _ 1 8 underlying65 b_ cE cI cH rfl (by decide) _ _ _ rfl (LR.out _ (by repeat first|exact I.refl _ _|apply I.alloc|apply I.drew|apply I.drewN)) ⟨w.heap.size+1,0,none⟩ 1 1 [.int .i64 m.next] rfl rfl NW.out (zM _) (by unfold maxLen;omega) (by omega) (by have:=SZ0.out;simp;omega) ?_;intro v' w7 ho hg hl;obtain⟨rA,c',rfl⟩:=dY ho;obtain⟨b7,h4,x9,k4⟩:=LG.out _ _ _ (by repeat first|exact I.refl _ _|apply I.alloc|apply I.drew|apply I.drewN) ho hg hl;have c7:w7.cell? ⟨b,3,none⟩=some (.slice zc V.bV.length FT):=b7.cell 3;have f7:w7.frozen? ⟨b,3,none⟩=false:=b7.frozen 3)
 all_goals
  generalize w7.setCell ⟨b,3,none⟩ (.slice rA (V.bV.length+1) c')=w4 at*
  have si:=k4;have dg:(V.iz m.next.toNat).aR.length<=9000:=dg;have Fg:=h4.fz s;obtain⟨u4,Yv⟩:=h4.TZ (s:=s) (by first|omega|(simp only[VS.iz];omega));have Gr:gn≠b:=(h4.an gn rfl).1;have U7:b≠gn:=fun e=>Gr e.symm
  have Gq:g≠gn:=by omega
  obtain⟨eP,lq,GG⟩:=dY h4.aR;subst GG;have E1:(w4).cell? ⟨b,1,none⟩=some (.slice (some ⟨gn,0,none⟩) V.num.length cn):=h4.ae.cell 1;have E2:(w4).cell? ⟨b,2,none⟩=some (.slice eP (V.iz m.next.toNat).aR.length lq):=h4.ae.cell 2;have TS:Hid (BY b (.slice (some ⟨gn,0,none⟩) V.num.length cn) (.slice eP (V.iz m.next.toNat).aR.length lq) (w4).drew):=⟨h4.ae.cell 1,h4.ae.cell 2⟩;obtain⟨HR,GR⟩:=Se ((h4.ql s ((V.iz m.next.toNat).aR.length:Int)).new ((I.refl aq _).drew)) ((x9.ql Gq _).kept ((I.refl aq _).drew) (fun hx=>hx)) ((si.ql _).new ((I.refl aq _).drew)) kj;have HR:=ai HR;have GR:=ai GR;have FZ:(w4).frozen? ⟨gn,s,none⟩=false:=Fg;have SZ:Hid (base<=(w4).heap.size):=by have:=h4.bb;have:=h4.ae.lt;show _<=_;omega
  clear h4 x9 si k4 E1 b7 LR LG NW;go_wp2_with fail;refine kH (S:=BY b (.slice (some ⟨gn,0,none⟩) V.num.length cn) (.slice eP (V.iz m.next.toNat).aR.length lq)) 11 (by kernel_rfl) rfl rfl rfl (by kernel_rfl) (by kernel_rfl) ?_;have az:=TS.out;refine aB 0 52 (.pointer (some ⟨b,0,none⟩)) az ?_;refine aB 1 53 (.pointer (some ⟨b,0,none⟩)) az ?_;refine aB 2 54 (.pointer (some ⟨b,1,none⟩)) az ?_;refine aB 3 55 (.slice (some ⟨gn,0,none⟩) V.num.length cn) az ?_;refine aB 4 56 (.int .i64 (s:Int)) az ?_;refine aB 5 57 (.pointer (some ⟨b,0,none⟩)) az ?_;refine aB 6 58 (.pointer (some ⟨b,0,none⟩)) az ?_;refine aB 7 59 (.pointer (some ⟨b,2,none⟩)) az ?_;refine aB 8 60 (.slice eP (V.iz m.next.toNat).aR.length lq) az ?_;refine aB 9 61 (.int .i64 ((V.iz m.next.toNat).aR.length:Int)) az ?_;refine aB 10 62 (.pointer (some ⟨gn,s,none⟩)) az ?_;simp only[Act.put,Ac,Ak,Aj];refine Ba (by kernel_rfl) ?_ _;unfold iu;clear az;simp only[A4,Am,Ap];go_simp;go_wp2_with (at_builtin;refine Ad _ rfl _ _ 65 rfl base 3 i0 _ 1 8 underlying65 b_ cE cI cH rfl (by decide) _ _ _ rfl (HR.out _ ((I.refl _ _).alloc _)) _ 1 1 [.int .i64 (s:Int)] rfl rfl ?c1 ?c2 ?c3 ?c4 ?c5 ?_)
  case c1=>exact Nl _ (s:Int) _ (by simp)
  case c2=>exact zM _
  case c3=>unfold maxLen;omega
  case c4=>omega
  case c5=>have:=SZ.out;simp;omega
  intro v' w7 bE aX cJ bH;obtain⟨rA,c',rfl⟩:=dY bE;obtain⟨b7,fS,F4,bt⟩:=GR.out _ _ _ ((I.refl _ _).alloc _) bE aX (by simpa using bH);have c7:w7.cell? ⟨b,2,none⟩=some (.slice eP (V.iz m.next.toNat).aR.length lq):=b7.cell 2;have f7:=b7.frozen 2;clear HR GR TS b7;go_wp2_with fail;go_end0;exact⟨rfl,_,_,fS,F4,bt⟩
theorem ape(kj:g<base)(qI:∀(i:Nat) (m:MS),M[i]? =some m->0<=m.next){s:Int}(hv:lM M V s V'):V'.aR.length<=9000->V'.bV.length<=9000->
 ∀W ov lv,fH W b base (.slice (some ⟨g,0,none⟩) M.length c) nv ov lv V->jg W g vs M->Calls prog 54 #[.pointer (some ⟨b,0,none⟩),.int .i64 s] W (y9 W b base g (.slice (some ⟨g,0,none⟩) M.length c) nv ov lv vs M V'):=by
 induction hv with
 |sR V s v hn hv=>intro _ _ W ov lv h hM;exact apb h hM hn hv
 |stop V s m hn hm hk=>
  intro h1 h2 W ov lv h hM;exact apf h hM kj hn hm hk (by simp[VS.put]at h1;omega)
 |take V s m hn hm hk=>
  intro h1 h2 W ov lv h hM;exact apg h hM kj hn hm hk (qI s m hm) (by simp[VS.put,VS.iz]at h1;omega) (by simp[VS.put,VS.iz]at h2;omega)
 |one V V' s m hn hm hk hv ih=>
  intro h1 h2 W ov lv h hM;have jx:V'.aR.length<=9000:=by simp[VS.put]at h1;omega
  exact apd h hM kj hn hm hk (ih jx h2) hv.grow.1 jx
 |cX V V' V2 s m hn hm hk hv hw ih uv=>
  intro h1 h2 W ov lv h hM;have jx:V2.aR.length<=9000:=by simp[VS.put]at h1;omega
  have PA:V2.bV.length<=9000:=h2;have g1:=hv.grow;have g2:=hw.grow;exact aph h hM kj hn hm hk (ih (by omega) (by omega)) (uv jx PA) g1.1 (by omega) jx
theorem fH.aic{w7:World}{sv uE:Value}{num:List Int}{aR bV:List Nat}(h:fH w b base sv nv ov lv ⟨num,aR,bV⟩)(t:Int)(k0:I aq w W)(a8:w7.ownsRow base 3 1 uE (num.length+1) (iE num++[.int .i64 t]))(hg:W.grownBy w7 nv.ownBlock)(bH:uE.ownBlock=nv.ownBlock\/uE.ownBlock=some W.heap.size):
 ay w7 b #[sv,nv,ov,lv] 133/\fH (w7.setCell ⟨b,1,none⟩ uE) b base sv uE ov lv ⟨num++[t],aR,bV⟩/\I (oj b nv ov lv) w (w7.setCell ⟨b,1,none⟩ uE):=by
 have V5:=k0.size;have k7:I (fun i=>nv.ownBlock=some i) w w7:=(k0.mono (fun i hx=>hx.elim)).dn hg (fun j hj=>Or.inl hj);have qi:nv.ownBlock≠some b:=fun e=>(h.an b e).1 rfl
 have b7:=h.ae.kept k7 qi
 have qK:∀i,uE.ownBlock=some i->nv.ownBlock=some i\/w.heap.size<=i:=by
  intro i hi;rcases bH with hl|hl
  ·exact Or.inl (hl▸hi)
  ·rw[hl]at hi;cases hi;right;omega
 have k8:I (oj b nv ov lv) w (w7.setCell ⟨b,1,none⟩ uE):=I.setCell (S:=oj b nv ov lv) (k7.mono (S':=oj b nv ov lv) (fun i hi=>Or.inr (Or.inl hi))) (p:=⟨b,1,none⟩) (Or.inl (Or.inl rfl)) _;have kb:I (fun i=>i=b) w7 (w7.setCell ⟨b,1,none⟩ uE):=(I.refl (fun i=>i=b) w7).setCell (p:=⟨b,1,none⟩) (Or.inl rfl) uE
 have jO:∀i,uE.ownBlock=some i->i≠b:=fun i hi e=>by
  subst e;rcases qK i hi with h1|h1
  ·exact qi h1
  ·have:=h.ae.lt;omega
 refine⟨b7,⟨?_,?_,?_,?_,h.bb,fun i hi=>?_,h.ao,h.al⟩,k8⟩
 ·have:=b7.setCell 1 uE;simpa using this
 ·have e2:iE (num++[t])=iE num++[.int .i64 t]:=by simp[iE]
  show World.ownsRow _ base 3 1 uE (num++[t]).length (iE (num++[t]))
  rw[Ao,e2];exact dh a8 kb (fun i hi e=>jO i hi e)
 ·exact dh (dh h.aR k7 (fun i hi hx=>(h.an i hx).2.1 hi)) kb (fun i hi e=>(h.ao i hi).1 e)
 ·exact dh (dh h.bV k7 (fun i hi hx=>(h.an i hx).2.2 hi)) kb (fun i hi e=>h.al i hi e)
 ·refine⟨jO i hi,fun e=>?_,fun e=>?_⟩
  ·rcases qK i hi with h1|h1
   ·exact(h.an i h1).2.1 e
   ·have:=cA h.aR e;omega
  ·rcases qK i hi with h1|h1
   ·exact(h.an i h1).2.2 e
   ·have:=cA h.bV e;omega
theorem fH.first(w:World)(sv:Value)(start:Nat):fH ((w.alloc (.cells #[.int .i64 (start:Int)] 3)).alloc (.cells #[sv,.slice none 0 0,.slice none 0 0,.slice (some ⟨w.heap.size,0,none⟩) 1 1] 133)) (w.heap.size+1) w.heap.size sv (.slice none 0 0) (.slice none 0 0) (.slice (some ⟨w.heap.size,0,none⟩) 1 1) ⟨[],[],[start]⟩ where
 ae:=by have:=ay.new (w.alloc (.cells #[.int .i64 (start:Int)] 3)) #[sv,.slice none 0 0,.slice none 0 0,.slice (some ⟨w.heap.size,0,none⟩) 1 1] 133;simpa using this
 num:=At _ _ _ _
 aR:=At _ _ _ _
 bV:=by
  refine⟨by simp[oR],Or.inr ⟨w.heap.size,1,#[.int .i64 (start:Int)],rfl,Aa _,?_,Aa _,by unfold maxLen;omega,by simp,by simp[oR]⟩⟩;have:=(ay.new w #[.int .i64 (start:Int)] 3).alloc (.cells #[sv,.slice none 0 0,.slice none 0 0,.slice (some ⟨w.heap.size,0,none⟩) 1 1] 133);exact this
 bb:=Ew _
 an i hi:=by cases hi
 ao i hi:=by cases hi
 al i hi:=by
  have e:w.heap.size=i:=Cr hi;omega
theorem ry.grow(h:ry M at_ V V'):V'.num.length=V.num.length/\V.aR.length<=V'.aR.length/\V.bV.length<=V'.bV.length:=by
 induction h with
 |done a V h=>exact⟨rfl,Aa _,Aa _⟩
 |step a V V' V2 t h hv hl ih=>have:=hv.grow;omega
theorem I.No{w1 w2:World}(h:I aq w w1)(k:I K w1 w2)(hK:∀i,K i->w.heap.size<=i):I aq w w2:=h.bY k (fun i hi hx=>by have:=hK i hx;omega)
def Tn(b L gn mn mo:Nat)(nv:Value)(un uo:Int)(w':World):Prop:=(w'.cell? ⟨b,1,none⟩=some nv/\w'.cell? ⟨L,5,none⟩=some (.int .i64 (mo:Int)))/\w'.cell? ⟨gn,mn,none⟩=some (.int .i64 un)/\w'.cell? ⟨gn,mo,none⟩=some (.int .i64 uo)
theorem gw.bR{s:Sv}(h:gw w lo hi s m)(a b:Int):gw w lo hi ⟨s.k,s.sa,s.sn,s.sc,s.ed,s.sl,a,b⟩ {m with next:=a,ch:=b}:=⟨h.k,h.ed,h.sl,rfl,rfl,h.kr,h.set⟩
theorem jg.at(h:jg w g vs M)(hs:s<M.length):∃q:Sv,(∃hv:s<vs.length,vs[s]=q)/\(q.k=(M[s]).aT/\q.nx=(M[s]).next/\q.ot=(M[s]).ch)/\∀W,jg W g vs M->(W.cell? ⟨g,s*6,none⟩=some (.int .i64 q.k)/\W.cell? ⟨g,s*6+1,none⟩=some (.slice q.sa q.sn q.sc)/\W.cell? ⟨g,s*6+2,none⟩=some (.int .i64 q.ed)/\W.cell? ⟨g,s*6+3,none⟩=some (.int .i64 q.sl)/\W.cell? ⟨g,s*6+4,none⟩=some (.int .i64 q.nx)/\W.cell? ⟨g,s*6+5,none⟩=some (.int .i64 q.ot)):=by
 have hv:s<vs.length:=by rw[h.len];exact hs
 exact⟨vs[s],⟨hv,rfl⟩,h.WL s hv hs,fun W hW=>⟨hW.cell s hv 0 (by omega),hW.cell s hv 1 (by omega),hW.cell s hv 2 (by omega),hW.cell s hv 3 (by omega),hW.cell s hv 4 (by omega),hW.cell s hv 5 (by omega)⟩⟩
theorem an3(w:World)(q:Sv)(k:Nat)(hk:w.heap.size=k)(j:Nat)(u:Value)(h:q.cells.toList[j]? =some u):(w.alloc (.cells q.cells 96)).drew.cell? (Addr.add ⟨k,0,none⟩ j)=some u:=by subst hk;exact afe q j u h
theorem ajX{start:Nat}{VF:VS}(hM:jg w g vs M)(uk:∀i,(h:i<vs.length)->(h':i<M.length)->gw w lo hi vs[i] M[i])(hlh:hi<=w.heap.size)(bC:pS M)(dg:M.length<=4001)(hL:ry M 0 (VS.first M.length start) VF)
 (aqD:VF.aR.length<=4001)(aqk:VF.bV.length<=4002)(cP:∀s∈VF.aR,s<M.length)(cS:start<M.length):
 Calls prog 31 #[.slice (some ⟨g,0,none⟩) M.length c,.int .i64 (start:Int)] w fun e w'=>∃(v':Value) (ws:List Sv),e=.returned (.tuple #[v',.int .i64 (VF.num.getD start 0)])/\I aq w w'/\w'.ownsRow w.heap.size 96 6 v' VF.aR.length (jw ws)/\ws.length=VF.aR.length/\
  ∀i,(h:i<ws.length)->(h':i<(sorted M VF).length)->gw w' lo hi ws[i] (sorted M VF)[i]:=by
 obtain⟨i0,b_,cE,cI,cH⟩:=A7 Tryz.G9;have jz:=hM.lt;have gg:=ai (fH.first w (.slice (some ⟨g,0,none⟩) M.length c) start);have K0:Hid (I aq w ((w.alloc (.cells #[.int .i64 (start:Int)] 3)).alloc (.cells #[.slice (some ⟨g,0,none⟩) M.length c,.slice none 0 0,.slice none 0 0,.slice (some ⟨w.heap.size,0,none⟩) 1 1] 133))):=((I.refl aq w).alloc _).alloc _;have HM:=ai hM;have Ky:=ai uk;have qy:=ai bC;have HL:=ai hL;have H5:=ai cP;have afL:Hid (VF.num.length=M.length):=ai (by have:=hL.grow.1;simpa[VS.first]using this);clear hM uk bC hL cP;go_in;go_wp2_with fail;go_loopg [19] M.length (fun kk i wr=>∃(k:Nat) (nv:Value),i=.int .i64 (k:Int)/\k<=M.length/\kk=M.length-k/\Hid (fH wr (w.heap.size+1) w.heap.size (.slice (some ⟨g,0,none⟩) M.length c) nv (.slice none 0 0) (.slice (some ⟨w.heap.size,0,none⟩) 1 1) ⟨List.replicate k (-1),[],[start]⟩)/\Hid (I aq w wr))
 case atStart=>exact⟨0,.slice none 0 0,rfl,Aw _,rfl,gg.out,K0.out⟩
 case round=>
  obtain⟨k,nv,rfl,hk,gH,HS,HK⟩:=hrel;clear gg K0;by_cases ar:k<M.length
  ·have wW:Hid (∀W,I aq wr W->W.ownsRow w.heap.size 3 1 nv k (iE (List.replicate k (-1)))):=fun W hW=>by
    have:=dh HS.out.num hW (fun i _ hx=>hx);simpa using this
   obtain⟨Z1,cn,VM⟩:=dY (wW.out wr (I.refl _ _));subst VM;have c1:wr.cell? ⟨w.heap.size+1,1,none⟩=some (.slice Z1 k cn):=HS.out.ae.cell 1;have gj:=HS.out.ae.lt;have lW:(k:Int)<(M.length:Int):=(by omega);have wT:=HK.out.size;go_wp2_with (at_builtin;refine Ad _ rfl _ _ 65 rfl w.heap.size 3 i0 _ 1 8 underlying65 b_ cE cI cH rfl (by decide) _ _ _ rfl (wW.out _ ((I.refl _ _).alloc _)) _ 1 1 [.int .i64 (-1)] rfl rfl ?c1 ?c2 ?c3 ?c4 ?c5 ?_)
   case c1=>exact Nk _ (-1)
   case c2=>exact zM _
   case c3=>unfold maxLen;omega
   case c4=>omega
   case c5=>simp;omega
   intro v' w7 bE aX cJ bH;obtain⟨rA,c',rfl⟩:=dY bE;obtain⟨b7,fS,ac2⟩:=HS.out.aic (-1) ((I.refl aq wr).alloc (.cells #[.int .i64 (-1)] 3)) (by simpa using bE) aX (by simpa using bH);have c7:w7.cell? ⟨w.heap.size+1,1,none⟩=some (.slice Z1 k cn):=b7.cell 1;have f7:=b7.frozen 1;have aO:=ai fS;have afP:=ai (HK.out.No ac2 (fun i hi=>(HS.out.aN hi).1));clear wW HS HK b7 fS ac2;go_wp2_with fail;go_roundg (M.length-(k+1))
   case measure=>omega
   case rel=>exact⟨k+1,_,by simp,by omega,rfl,by have:=aO.out;rw[<-List.replicate_succ']at this;exact this,afP⟩
  ·have dL:k=M.length:=(by omega);subst dL;have lW:¬(M.length:Int)<(M.length:Int):=(by omega);go_wp2_with fail;go_loopg [7] VF.bV.length (fun kk i wr2=>∃(at_:Nat) (V:VS) (ov lv:Value),i=.int .i64 (at_:Int)/\kk=VF.bV.length-at_/\Hid (ry M at_ V VF)/\Hid (fH wr2 (w.heap.size+1) w.heap.size (.slice (some ⟨g,0,none⟩) M.length c) nv ov lv V)/\Hid (I aq w wr2))
   case atStart=>exact⟨0,⟨List.replicate M.length (-1),[],[start]⟩,_,_,rfl,rfl,HL,HS,HK⟩
   case round=>
    obtain⟨at_,V,ov,lv,rfl,aqg,SX,qB,BE⟩:=hrel;clear HS HK HL;obtain⟨w2,pE⟩:∃w2,w2=wr:=⟨_,rfl⟩
    subst pE;by_cases ajq:at_<V.bV.length
    ·obtain⟨gl,cl,Mm,l1,l2,l3,l4,l5⟩:=tw qB.out.bV (by omega);subst Mm;have c3:w2.cell? ⟨w.heap.size+1,3,none⟩=some (.slice (some ⟨gl,0,none⟩) V.bV.length cl):=qB.out.ae.cell 3;have hit:(at_:Int)<(V.bV.length:Int):=(by omega);have aqa:¬((V.bV.length:Int)<=(at_:Int)):=by omega
     have MF:∃(t:Nat) (V':VS),V.bV[at_]? =some t/\lM M V t V'/\ry M (at_+1) V' VF:=by
      cases SX.out with
      |done _ _ h=>omega
      |step _ _ V' _ t h hv hl=>exact⟨t,V',h,hv,hl⟩
     obtain⟨t,V',ht,hv,hl⟩:=MF;have ct:w2.cell? ⟨gl,at_,none⟩=some (.int .i64 (t:Int)):=by rw[l4 at_ ajq];simp[oR,ht]
     have gr:=hl.grow;have grv:=hv.grow;have F1:=ai (ape (vs:=vs) (c:=c) jz (fun i m Mf=>(qy.out m (Cg Mf)).1.1) hv (by omega) (by omega) w2 ov _ qB.out (HM.out.kept BE.out (fun hx=>hx)));have Fj:=ai hl;clear l4 l5 ht hv hl SX;go_wp2_with fail;refine(F1.out).mono ?_;rintro e w4 ⟨rfl,yE,zV,h4,x9,k4⟩;have KN:=ai (BE.out.No k4.kept (fun i hi=>(qB.out.aN hi).1));have HN:=ai h4;clear h4 x9 k4 qB BE F1;go_wp2_with fail;go_roundg (VF.bV.length-(at_+1))
     case measure=>omega
     case rel=>exact⟨at_+1,V',yE,zV,by simp,rfl,Fj,HN,KN⟩
    ·have hVF:V=VF:=by
      cases SX.out with
      |done _ _ h=>rfl
      |step _ _ V' _ t h hv hl=>have:=(Af.1 h).1;omega
     subst hVF;have Fj:Hid (V.num.length=M.length):=afL.out;obtain⟨zc,cl,Mm⟩:=dY qB.out.bV;subst Mm;obtain⟨aoo,co,hov⟩:=dY qB.out.aR;subst hov;have c3:w2.cell? ⟨w.heap.size+1,3,none⟩=some (.slice zc V.bV.length cl):=qB.out.ae.cell 3;have c2:w2.cell? ⟨w.heap.size+1,2,none⟩=some (.slice aoo V.aR.length co):=qB.out.ae.cell 2;have hit:¬((at_:Int)<(V.bV.length:Int)):=(by omega);go_wp2_with fail;go_loopg [8,54] V.aR.length (fun kk s8 i Yn=>∃(k:Nat) (ws:List Sv),i=.int .i64 (k:Int)/\k<=V.aR.length/\kk=V.aR.length-k/\ws.length=k/\Hid (Yn.ownsRow w.heap.size 96 6 s8 k (jw ws))/\Hid (∀i,s8.ownBlock=some i->w2.heap.size<=i)/\Hid (∀i,(h:i<ws.length)->(h':i<(sorted M V).length)->gw Yn lo hi ws[i] (sorted M V)[i])/\Hid (I aq w2 Yn))
     case atStart=>exact⟨0,[],rfl,Aw _,rfl,rfl,At _ _ _ _,(fun i hi=>by cases hi),(fun i h=>by cases h),I.refl _ _⟩
     case round=>
      obtain⟨k,ws,rfl,aQ,aqh,tg,H8,Fm,OI,o_⟩:=hrel;by_cases Qq:k<V.aR.length
      ·obtain⟨go,co',hox,o1,o2,o3,o4,o5⟩:=tw qB.out.aR (by omega)
       cases hox;have DO:V.aR[k]<M.length:=H5.out _ (Ay Qq)
       obtain⟨q,⟨GL,GJ⟩,⟨q1,q2,q3⟩,qc⟩:=(HM.out).at DO;have abF:=qy.out _ (Ay DO);unfold tM at abF;have K2:=BE.out.trans o_.out;obtain⟨d0,d1,d2,d3,d4,d5⟩:=qc wr (HM.out.kept K2 (fun hx=>hx));have pw:=(Ky.out _ GL DO).kept K2 (fun _ _ _ hx=>hx) hlh;rw[GJ]at pw
       have mZ:(sorted M V)[k]'(by simpa[sorted]using Qq)={M[V.aR[k]]with next:=V.num.getD (M[V.aR[k]]).next.toNat 0,ch:=V.num.getD (M[V.aR[k]]).ch.toNat 0}:=by
        simp[sorted,Ae,Ab DO]
       obtain⟨qk,cM,cO,cN,cq,fF,JP,JQ⟩:=q;simp only at q1 q2 q3 d0 d1 d2 d3 d4 d5;generalize hm:M[V.aR[k]]=m at*;obtain⟨mn,iy⟩:∃mn:Nat,m.next=(mn:Int):=⟨m.next.toNat,by omega⟩
       obtain⟨mo,eZ⟩:∃mo:Nat,m.ch=(mo:Int):=⟨m.ch.toNat,by omega⟩
       rw[iy]at q2;rw[eZ]at q3;subst q1 q2 q3;have wW:=Fj.out;obtain⟨gn,cn,ic,n1,n2,n3,n4,n5⟩:=tw qB.out.num (by omega);subst ic;have GD:mn<V.num.length:=(by omega);have ab7:mo<V.num.length:=(by omega);have cn1:w2.cell? ⟨gn,mn,none⟩=some (.int .i64 (V.num.getD mn 0)):=by rw[n4 mn GD];simp[iE,GD]
       have cn2:w2.cell? ⟨gn,mo,none⟩=some (.int .i64 (V.num.getD mo 0)):=by rw[n4 mo ab7];simp[iE,ab7]
       rw[iy,eZ]at mZ;simp only[Cj]at mZ;generalize V.num.getD mn 0=un at*;generalize V.num.getD mo 0=uo at*;generalize hs:V.aR[k]=s at*;have ck:wr.cell? ⟨go,k,none⟩=some (.int .i64 (s:Int)):=(o_.out.cell (p:=⟨go,k,none⟩) o2 (fun hx=>hx)).trans (by rw[o4 k Qq];simp[oR,Qq,hs]);have e1:wr.cell? ⟨gn,mn,none⟩=some (.int .i64 un):=(o_.out.cell (p:=⟨gn,mn,none⟩) n2 (fun hx=>hx)).trans cn1;have e2:wr.cell? ⟨gn,mo,none⟩=some (.int .i64 uo):=(o_.out.cell (p:=⟨gn,mo,none⟩) n2 (fun hx=>hx)).trans cn2;have eb:wr.cell? ⟨w.heap.size+1,1,none⟩=some (.slice (some ⟨gn,0,none⟩) V.num.length cn):=(qB.out.new o_.out).ae.cell 1;have gj:=(qB.out.new o_.out).ae.lt;have wT:=o_.out.size;have aqi:=BE.out.size;have ajg:(k:Int)<(V.aR.length:Int):=(by omega);have ajh:¬((V.aR.length:Int)<=(k:Int)):=(by omega);have aqb:¬((M.length:Int)<=(s:Int)):=(by omega);have aqc:¬((V.num.length:Int)<=(mn:Int)):=(by omega);have aqd:¬((V.num.length:Int)<=(mo:Int)):=(by omega);have kA:I aq wr ((wr.alloc (.cells #[.int .i64 m.aT,.slice cM cO cN,.int .i64 cq,.int .i64 fF,.int .i64 (mn:Int),.int .i64 (mo:Int)] 96)).drew):=((I.refl aq wr).alloc _).drew;have kB:I aq wr ((wr.alloc (.cells #[.int .i64 m.aT,.slice cM cO cN,.int .i64 cq,.int .i64 fF,.int .i64 un,.int .i64 (mo:Int)] 96)).drew):=((I.refl aq wr).alloc _).drew;have ZC:Hid (Tn (w.heap.size+1) wr.heap.size gn mn mo (.slice (some ⟨gn,0,none⟩) V.num.length cn) un uo ((wr.alloc (.cells #[.int .i64 m.aT,.slice cM cO cN,.int .i64 cq,.int .i64 fF,.int .i64 (mn:Int),.int .i64 (mo:Int)] 96)).drew)):=⟨⟨(kA.cell (p:=⟨w.heap.size+1,1,none⟩) gj (fun hx=>hx)).trans eb,(ay.new wr #[.int .i64 m.aT,.slice cM cO cN,.int .i64 cq,.int .i64 fF,.int .i64 (mn:Int),.int .i64 (mo:Int)] 96).drew.cell 5⟩,(kA.cell (p:=⟨gn,mn,none⟩) (by show gn<_;omega) (fun hx=>hx)).trans e1,(kA.cell (p:=⟨gn,mo,none⟩) (by show gn<_;omega) (fun hx=>hx)).trans e2⟩;have ZD:Hid (Tn (w.heap.size+1) wr.heap.size gn mn mo (.slice (some ⟨gn,0,none⟩) V.num.length cn) un uo ((wr.alloc (.cells #[.int .i64 m.aT,.slice cM cO cN,.int .i64 cq,.int .i64 fF,.int .i64 un,.int .i64 (mo:Int)] 96)).drew)):=⟨⟨(kB.cell (p:=⟨w.heap.size+1,1,none⟩) gj (fun hx=>hx)).trans eb,(ay.new wr #[.int .i64 m.aT,.slice cM cO cN,.int .i64 cq,.int .i64 fF,.int .i64 un,.int .i64 (mo:Int)] 96).drew.cell 5⟩,(kB.cell (p:=⟨gn,mn,none⟩) (by show gn<_;omega) (fun hx=>hx)).trans e1,(kB.cell (p:=⟨gn,mo,none⟩) (by show gn<_;omega) (fun hx=>hx)).trans e2⟩;have Zj:=ai (pw.bR un uo);have Zg:=ai mZ;clear wW pw mZ qc o4 o5 n4 n5 cn1 cn2 kA kB abF K2;go_wp2_with fail;refine kH (S:=Tn (w.heap.size+1) wr.heap.size gn mn mo (.slice (some ⟨gn,0,none⟩) V.num.length cn) un uo) 19 (by kernel_rfl) rfl rfl rfl (by kernel_rfl) (by kernel_rfl) ?_;have az:=ZC.out;refine aB 0 62 (.pointer (some ⟨w.heap.size+1,0,none⟩)) az ?_;refine aB 1 63 (.pointer (some ⟨w.heap.size+1,0,none⟩)) az ?_;refine aB 2 64 (.pointer (some ⟨w.heap.size+1,1,none⟩)) az ?_;refine aB 3 65 (.slice (some ⟨gn,0,none⟩) V.num.length cn) az ?_;refine aB 4 66 (.pointer (some ⟨wr.heap.size,4,none⟩)) az ?_;refine aB 8 70 (.pointer (some ⟨w.heap.size+1,0,none⟩)) az ?_;refine aB 9 71 (.pointer (some ⟨w.heap.size+1,0,none⟩)) az ?_;refine aB 10 72 (.pointer (some ⟨w.heap.size+1,1,none⟩)) az ?_;refine aB 11 73 (.slice (some ⟨gn,0,none⟩) V.num.length cn) az ?_;refine aB 12 74 (.pointer (some ⟨wr.heap.size,5,none⟩)) az ?_;refine aB 13 75 (.int .i64 (mo:Int)) az ?_;refine aB 14 76 (.pointer (some ⟨gn,mo,none⟩)) az ?_;refine aB 15 77 (.int .i64 uo) az ?_;simp only[Act.put,Ac,Ak,Aj];refine Ax (rs:=[5]) (by kernel_rfl) (by simp) (An rfl (fun K hK=>?_) As);go_simp;refine hK.out _ _ az (fun _=>?_);clear hK K;refine aB 6 68 (.pointer (some ⟨gn,mn,none⟩)) az ?_;refine aB 7 69 (.int .i64 un) az ?_;refine aB 16 78 (.pointer (some ⟨wr.heap.size,4,none⟩)) az ?_;simp only[Act.put,Ac,Ak,Aj];refine Ax (rs:=[17]) (by kernel_rfl) (by simp) (An rfl (fun K hK=>?_) As);go_simp;have IP:=ZD.out;refine hK.out _ _ IP (fun _=>?_);clear hK K;refine aB 18 79 (.pointer (some ⟨wr.heap.size,5,none⟩)) IP ?_;simp only[Act.put,Ac,Ak,Aj];refine Ba (by kernel_rfl) ?_ _;unfold iu;clear az IP ZC ZD;simp only[A4,Am,Ap];go_simp;have Zd:Hid (∀W,I aq wr W->W.ownsRow w.heap.size 96 6 u8 k (jw ws)):=(fun W kW=>dh H8.out kW (fun i _ hx=>hx));obtain⟨i1,hj0,hy0,hy1,hy2⟩:=A7 Tryz.acP;obtain⟨KO,c8,rfl⟩:=dY H8.out;go_wp2_with (at_builtin;refine Ad _ rfl _ _ 50 rfl w.heap.size 96 i1 _ 6 64 underlying50 hj0 hy0 hy1 hy2 rfl (by decide) _ _ _ rfl (Zd.out _ ((((I.refl _ _).alloc _).alloc _).drew)) _ 1 1 (Sv.cells ⟨m.aT,cM,cO,cN,cq,fF,un,uo⟩).toList rfl rfl ?c1 ?c2 ?c3 ?c4 ?c5 ?_)
       case c1=>exact an3 _ ⟨m.aT,cM,cO,cN,cq,fF,un,uo⟩ _ (by simp)
       case c2=>exact Sv.one _
       case c3=>unfold maxLen;omega
       case c4=>omega
       case c5=>simp;omega
       intro v' w7 bE aX cJ bH;obtain⟨rA,c',rfl⟩:=dY bE;have kg:I (fun i=>(Value.slice KO k c8).ownBlock=some i) wr w7:=(((((I.refl (fun i=>(Value.slice KO k c8).ownBlock=some i) wr).alloc _).alloc _).drew)).dn aX (fun j hj=>Or.inl hj);have kg2:I aq w2 w7:=o_.out.bY kg (fun i hi hx=>by have:=Fm.out i hx;omega);have dt:∀i,lo<=i->i<hi->¬((Value.slice KO k c8).ownBlock=some i):=fun i _ h2 hx=>by have:=Fm.out i hx;omega
       have aO:Hid (w7.ownsRow w.heap.size 96 6 (.slice rA (k+1) c') (k+1) (jw (ws++[⟨m.aT,cM,cO,cN,cq,fF,un,uo⟩]))):=by
        show World.ownsRow _ _ _ _ _ _ _
        rw[abf];simpa[jw]using bE
       have FO:Hid (∀i,(Value.slice rA (k+1) c').ownBlock=some i->w2.heap.size<=i):=by
        intro i aS;rcases bH with hl|hl
        ·exact Fm.out i (hl▸aS)
        ·rw[hl]at aS;cases aS;first|omega|(simp;omega)
       have FV:Hid (∀i,(h:i<(ws++[(⟨m.aT,cM,cO,cN,cq,fF,un,uo⟩:Sv)]).length)->(h':i<(sorted M V).length)->gw w7 lo hi (ws++[(⟨m.aT,cM,cO,cN,cq,fF,un,uo⟩:Sv)])[i] (sorted M V)[i]):=by
        intro i h1 h2;by_cases aS:i<ws.length
        ·have e1:(ws++[(⟨m.aT,cM,cO,cN,cq,fF,un,uo⟩:Sv)])[i]=ws[i]:=A6 _;rw[e1];exact(OI.out i aS h2).kept kg dt (by omega)
        ·have e:i=k:=by simp at h1;omega
         subst e;have e1:(ws++[(⟨m.aT,cM,cO,cN,cq,fF,un,uo⟩:Sv)])[i]=⟨m.aT,cM,cO,cN,cq,fF,un,uo⟩:=(by simp[<-tg]);rw[e1,Zg.out];exact Zj.out.kept kg dt (by omega)
       have FK:=ai kg2;clear kg kg2 dt bE aX cJ bH H8 Zd Fm OI o_ Zj Zg;go_wp2_with fail;go_roundg (V.aR.length-(k+1))
       case measure=>omega
       case rel=>exact⟨k+1,_,by simp,by omega,rfl,by simp[tg],aO,FO,FV,FK⟩
      ·have bI:k=V.aR.length:=(by omega);subst bI;have wW:=Fj.out;obtain⟨gn,cn,ic,n1,n2,n3,n4,n5⟩:=tw qB.out.num (by omega);subst ic;have cs1:wr.cell? ⟨gn,start,none⟩=some (.int .i64 (V.num.getD start 0)):=(o_.out.cell (p:=⟨gn,start,none⟩) n2 (fun hx=>hx)).trans (by rw[n4 start (by omega)];simp[iE,show start<V.num.length by omega]);have eb:wr.cell? ⟨w.heap.size+1,1,none⟩=some (.slice (some ⟨gn,0,none⟩) V.num.length cn):=(qB.out.new o_.out).ae.cell 1;have ajg:¬((V.aR.length:Int)<(V.aR.length:Int)):=(by omega);have ajh:¬((V.num.length:Int)<=(start:Int)):=(by omega);obtain⟨KO,c8,rfl⟩:=dY H8.out;have OO:Hid (∀W,I aq wr W->I aq w W/\W.ownsRow w.heap.size 96 6 (.slice KO V.aR.length c8) V.aR.length (jw ws)/\∀i,(h:i<ws.length)->(h':i<(sorted M V).length)->gw W lo hi ws[i] (sorted M V)[i]):=(fun W kW=>⟨(BE.out.trans o_.out).trans kW,dh H8.out kW (fun i _ hx=>hx),fun i h1 h2=>(OI.out i h1 h2).kept kW (fun _ _ _ hx=>hx) (by have:=BE.out.size;have:=o_.out.size;omega)⟩);clear wW n4 n5 H8 Fm OI o_ qB BE HM Ky qy H5 Fj;go_wp2_with fail;go_region;go_wp2_with fail;go_ret2;obtain⟨p1,p2,p3⟩:=OO.out _ ((I.refl aq wr).drew);exact⟨_,ws,rfl,p1,p2,tg,p3⟩
def bP(s:ByteArray):RS:={next:=0,au:=rJ s (dK s (s.size+1) 0),aC:=0,names:=[]}
def ix(g:RG)(s:ByteArray):bu:=if 1000<(dw g (bP s)).2.size then(dw g (bP s)).1.au.bG 7 0 else(dw g (bP s)).1.au
def pick(F:bu):Int×Int:=
 match F.dd with
 |some p=>(2,p)
 |none=>match F.form with
  |some p=>(3,p)
  |none=>match F.rep with
   |some p=>(4,p)
   |none=>match F.cls with
    |some p=>(5,p)
    |none=>match F.kX with
     |some p=>(6,p)
     |none=>match F.rF with
      |some p=>(7,p)
      |none=>(0,0)
theorem aex{j:Int}(h2:2<=j)(h7:j<=7)(ar:∀i,2<=i->i<j->F.get i=none)(h:F.get j=some p):pick F=(j,p):=by
 have:j=2\/j=3\/j=4\/j=5\/j=6\/j=7:=by omega
 have g2:F.get 2=F.dd:=rfl;have g3:F.get 3=F.form:=rfl;have g4:F.get 4=F.rep:=rfl;have g5:F.get 5=F.cls:=rfl;have g6:F.get 6=F.kX:=rfl;have g7:F.get 7=F.rF:=rfl;rcases this with rfl|rfl|rfl|rfl|rfl|rfl
 ·rw[g2]at h;simp[pick,h]
 ·rw[g3]at h;have a:=ar 2 (by omega) (by omega);rw[g2]at a;simp[pick,h,a]
 ·rw[g4]at h;have a:=ar 2 (by omega) (by omega);have b:=ar 3 (by omega) (by omega);rw[g2]at a;rw[g3]at b;simp[pick,h,a,b]
 ·rw[g5]at h;have a:=ar 2 (by omega) (by omega);have b:=ar 3 (by omega) (by omega);have c:=ar 4 (by omega) (by omega);rw[g2]at a;rw[g3]at b;rw[g4]at c;simp[pick,h,a,b,c]
 ·rw[g6]at h;have a:=ar 2 (by omega) (by omega);have b:=ar 3 (by omega) (by omega);have c:=ar 4 (by omega) (by omega);have d:=ar 5 (by omega) (by omega);rw[g2]at a;rw[g3]at b;rw[g4]at c;rw[g5]at d;simp[pick,h,a,b,c,d]
 ·rw[g7]at h;have a:=ar 2 (by omega) (by omega);have b:=ar 3 (by omega) (by omega);have c:=ar 4 (by omega) (by omega);have d:=ar 5 (by omega) (by omega);have e:=ar 6 (by omega) (by omega);rw[g2]at a;rw[g3]at b;rw[g4]at c;rw[g5]at d;rw[g6]at e;simp[pick,h,a,b,c,d,e]
theorem aey(ar:∀i,2<=i->i<8->F.get i=none):pick F=(0,0):=by
 have a:=ar 2 (by omega) (by omega);have b:=ar 3 (by omega) (by omega);have c:=ar 4 (by omega) (by omega);have d:=ar 5 (by omega) (by omega);have e:=ar 6 (by omega) (by omega);have f:=ar 7 (by omega) (by omega);change F.dd=none at a;change F.form=none at b;change F.rep=none at c;change F.cls=none at d;change F.kX=none at e;change F.rF=none at f;simp[pick,a,b,c,d,e,f]
theorem Ry{g:RG}(h:g.aN i):g.use i:=by rcases h with h|h|h<;>simp[RG.use,h]
def ik(q:Nv)(x:Int)(y:Option Nat):Array Value:=#[.int .i64 q.k,.slice q.pa q.pn q.pc,.slice q.sa q.sn q.sc,.int .i64 q.ed,.int .i64 q.gr,.int .i64 q.lo,.int .i64 q.hi,.bool q.lz,.int .i64 x,.map y]
def uH(q:Nv)(x:Int)(y:Option Nat):Value:=.agg (ik q x y)
def yF(w:World)(b:Nat)(q:Nv)(x:Int)(y:Option Nat):World:=((gq w b q).setCell ⟨b,8,none⟩ (.int .i64 x)).setCell ⟨b,9,none⟩ (.map y)
theorem RQ(w:World)(b:Nat)(q:Nv)(x:Int)(y:Option Nat):I (fun i=>i=b) w (yF w b q x y):=
 ((JN w b q).setCell (p:=⟨b,8,none⟩) (Or.inl rfl) _).setCell (p:=⟨b,9,none⟩) (Or.inl rfl) _
theorem RP{p:Nv}{x0:Int}{y0:Option Nat}(h:ay w b (ik p x0 y0) t)(q:Nv):ay (yF w b q x y) b (ik q x y) t:=by
 have h8:=(((((((((h.setCell 0 (.int .i64 q.k)).setCell 1 (.slice q.pa q.pn q.pc)).setCell 2 (.slice q.sa q.sn q.sc)).setCell 3 (.int .i64 q.ed)).setCell 4 (.int .i64 q.gr)).setCell 5 (.int .i64 q.lo)).setCell 6 (.int .i64 q.hi)).setCell 7 (.bool q.lz)).setCell 8 (.int .i64 x)).setCell 9 (.map y);have e:((((((((((ik p x0 y0).setIfInBounds 0 (.int .i64 q.k)).setIfInBounds 1 (.slice q.pa q.pn q.pc)).setIfInBounds 2 (.slice q.sa q.sn q.sc)).setIfInBounds 3 (.int .i64 q.ed)).setIfInBounds 4 (.int .i64 q.gr)).setIfInBounds 5 (.int .i64 q.lo)).setIfInBounds 6 (.int .i64 q.hi)).setIfInBounds 7 (.bool q.lz)).setIfInBounds 8 (.int .i64 x)).setIfInBounds 9 (.map y)=ik q x y:=by simp[ik]
 rw[e]at h8;exact h8
theorem ay.Sj(h:ay w b (ik q x y) t):
 w.cell? ⟨b,0,none⟩=some (.int .i64 q.k)/\w.cell? ⟨b,1,none⟩=some (.slice q.pa q.pn q.pc)/\w.cell? ⟨b,2,none⟩=some (.slice q.sa q.sn q.sc)/\w.cell? ⟨b,3,none⟩=some (.int .i64 q.ed)/\w.cell? ⟨b,4,none⟩=some (.int .i64 q.gr)/\w.cell? ⟨b,5,none⟩=some (.int .i64 q.lo)/\w.cell? ⟨b,6,none⟩=some (.int .i64 q.hi)/\w.cell? ⟨b,7,none⟩=some (.bool q.lz)/\w.cell? ⟨b,8,none⟩=some (.int .i64 x)/\w.cell? ⟨b,9,none⟩=some (.map y):=
 ⟨h.cell 0,h.cell 1,h.cell 2,h.cell 3,h.cell 4,h.cell 5,h.cell 6,h.cell 7,h.cell 8,h.cell 9⟩
theorem RM{a:Act}{e:Int}(h2:a.tmps.getD 2 undef=.pointer (some ⟨b,0,none⟩))(h3:a.tmps.getD 3 undef=.int .i64 e)(h4:a.tmps.getD 4 undef=.int .i64 p)(hd:a.defers=[])
 (hb:ay W b (ik q x y) 46)(hQ:Q (.returned (.tuple #[uH q x y,.int .i64 e,.int .i64 p])) W):bodyPost prog Tryz.f11 Q Exit.ret a W:=by
 obtain⟨r0,r1,r2,r3,r4,r5,r6,r7,r8,r9⟩:=hb.Sj;have s2:a.tmps[2]?.getD undef=.pointer (some ⟨b,0,none⟩):=by simpa using h2
 have s3:a.tmps[3]?.getD undef=.int .i64 e:=by simpa using h3
 have s4:a.tmps[4]?.getD undef=.int .i64 p:=by simpa using h4
 exact Ct (v:=.tuple #[uH q x y,.int .i64 e,.int .i64 p]) (by simp[results,results11,go_sem,s2,s3,s4,r0,r1,r2,r3,r4,r5,r6,r7,r8,r9,uH,ik]) hd hQ
theorem amW(s:ByteArray)(w:World)(hs:300<s.size)(hm:s.size<=maxLen):
 Calls prog 11 #[.string s] w fun e w'=>e=.returned (.tuple #[uH bZ 0 none,.int .i64 1,.int .i64 0])/\I aq w w':=by
 have hb:(300:Int)<(s.size:Int):=by omega
 go_in
 go_wp2_with fail
 exact Ct (v:=.tuple #[uH bZ 0 none,.int .i64 1,.int .i64 0]) (by simp[results,results11,go_sem,uH,ik,bZ]) rfl ⟨rfl,(I.refl _ _).alloc _⟩
theorem amX(s:ByteArray)(w:World)(hs:s.size<=300):
 Calls prog 11 #[.string s] w fun e w'=>∃(g:RG) (q:Nv) (x:Int) (y:Option Nat) (st:RS),g.rs=(dK s (s.size+1) 0).map (·.2)/\g.ps=(dK s (s.size+1) 0).map (fun p=>(p.1:Int))++[(s.size:Int)]/\
  e=.returned (.tuple #[uH q x y,.int .i64 (pick (ix g s)).1,.int .i64 (pick (ix g s)).2])/\I aq w w'/\st=(dw g (bP s)).1/\
  ((pick (ix g s)).1=0->x=st.aC/\y=some g.bn/\aZ w' g false {st with au:=ix g s}/\c_ w' w.heap.size w'.heap.size q (dw g (bP s)).2 (qD g (bP s))/\∀i,g.use i->w.heap.size<=i):=by
 have hb:¬(300:Int)<(s.size:Int):=by omega
 go_in
 go_wp2_with fail
 refine(alk s (w.alloc (.cells (ik bZ 0 none) 46)) hs).mono ?_;rintro e w1 ⟨g,rfl,km,Gs,hR,DS,aI⟩;go_wp2_with fail;refine(apm hR).mono ?_;rintro e w2 ⟨q,rfl,h2,aca,aG⟩;have hp2:c_ w2 w1.heap.size w2.heap.size q (dw g (bP s)).2 (qD g (bP s)):=aca;clear aca;have bq2:=ay.new w2 q.cells 43;have Wx:I aq w2 (w2.alloc (.cells q.cells 43)):=(I.refl _ _).alloc _;have VQ:=hp2.kept Wx (fun _ _ _ hx=>hx) (Aa _);have bm:Calls prog 25 #[Nv.val q] (w2.alloc (.cells q.cells 43)) fun e tF=>e=.returned (.int .i64 (dw g (bP s)).2.size)/\I aq (w2.alloc (.cells q.cells 43)) tF:=anQ VQ (by simp) _ (I.refl _ _)
 simp only[Nv.val,Nv.cells]at bm⊢;go_wp2_with fail;refine bm.mono ?_;rintro e w3 ⟨rfl,aQ⟩;have h3:=(h2.nil Wx).nil aQ;have Pa:=bq2.kept aQ (fun hx=>hx);have Qy:=VQ.kept aQ (fun _ _ _ hx=>hx) (by simp);have Ql:I g.aN w1 w3:=aG.trans ((Wx.trans aQ).mono (fun _ hx=>hx.elim));have xB:=aG.size;clear bm hp2 VQ bq2 h2;by_cases U8:1000<(dw g (bP s)).2.size
 ·have mw:ix g s=(dw g (bP s)).1.au.bG 7 0:=by simp[ix,U8]
  go_wp2_with fail
  refine(He h3 7 0 (by omega) (by omega)).mono ?_;rintro e w4 ⟨rfl,PB,cQ⟩;have h4:aZ w4 g false {(dw g (bP s)).1 with au:=ix g s}:=by rw[mw];exact PB
  have yj:=Ql.trans cQ;have hnq:∀i,w1.heap.size<=i->¬g.aN i:=fun i hi ho=>by have:=hR.mH ho;omega
  have CE:=Pa.kept cQ (hnq _ xB);have s23:=aQ.size;have Jh:=Qy.kept cQ (fun i hi _=>hnq i hi) (by simp at s23;omega);have XR:w2.heap.size<=w4.heap.size:=Nat.le_of_lt CE.lt;clear PB cQ Ql h3 mw Pa Qy
  have xl:I aq w w4:=((((I.refl aq w).alloc (.cells (ik bZ 0 none) 46)).trans aI).bY (yj) (fun i hi ho=>by
   have:=DS i (Ry ho);simp at this;omega))
  have GY:∀i,g.use i->w.heap.size+1<=i:=fun i hi=>by have:=DS i hi;simpa using this
  have Jf:¬g.aN w.heap.size:=fun ho=>by have:=GY _ (Ry ho);omega
  have b4:ay w4 w.heap.size (ik bZ 0 none) 46:=((ay.new w (ik bZ 0 none) 46).kept aI (fun hx=>hx)).kept yj Jf;have s1:w.heap.size+1<=w1.heap.size:=by have:=aI.size;simpa using this
  have s24:=yj.size;have hq1:w2.heap.size<w4.heap.size:=CE.lt;clear aI aG aQ yj;obtain⟨D,hD,hF⟩:=h4.fm;generalize zo:ix g s=F at*;simp only at hF;go_wp2_with fail;go_loopg [7] 6 (fun kk v wr=>∃j:Int,v=.int .i64 j/\2<=j/\j<=8/\kk=(8-j).toNat/\Hid (∀i,2<=i->i<j->F.get i=none)/\wr=w4)
  case atStart=>exact⟨2,rfl,by omega,by omega,rfl,fun i h1 h2=>by omega,rfl⟩
  case round=>
   obtain⟨j,rfl,ko,hj8,rfl,HN,rfl⟩:=hrel;have c3:wr.cell? ⟨g.b,3,none⟩=some (.map (some g.bf)):=h4.ae.cell 3;obtain⟨e0,e1,e2,e3,e4,e5,e6,e7,e8,e9⟩:=b4.Sj;obtain⟨f0,f1,f2,f3,f4,f5,f6,f7⟩:=b4.o7;have f8:=b4.frozen 8;have f9:=b4.frozen 9;simp only[bZ]at e0 e1 e2 e3 e4 e5 e6 e7 e8 e9;by_cases hj:j<=7
   ·have oF:keyOf prog 27 (.int .i64 j)=some (.int .i64 j):=keyOf_int_mk underlying27 (Cy (by omega))
    cases nS:F.get j with
    |none=>
     have hh:has D (.int .i64 j)=false:=by rw[hF.has,nS];rfl
     go_wp2_with (at_lookup;refine Bg _ rfl _ _ 80 rfl 27 3 .i64 yx underlying80 underlying3 (yO _) g.bf _ D rfl hD _ _ rfl oF ?_;intro c qJ zH)
     go_roundg (8-(j+1)).toNat
     case measure=>omega
     case rel=>
      refine⟨j+1,rfl,by omega,by omega,rfl,?_,rfl⟩;intro i h1 h2;by_cases hi:i=j
      ·rw[hi];exact nS
      ·exact HN.out i h1 (by omega)
    |some pl=>
     have hh:has D (.int .i64 j)=true:=by rw[hF.has,nS];rfl
     have zG:=hF.val j pl nS;have ku:=aex ko hj HN.out nS;have yZ:Hid (pick F=(j,pl)):=ku;have Tk:Hid (D.atKey (.int .i64 j) (.lit (.int .i64 0))=.lit (.int .i64 pl)):=zG;clear ku zG;go_wp2_with (at_lookup;refine Bg _ rfl _ _ 80 rfl 27 3 .i64 yx underlying80 underlying3 (yO _) g.bf _ D rfl hD _ _ rfl oF ?_;intro c qJ zH);have kz:=RQ wr w.heap.size bZ 0 none;have xm:=xl.bY kz (fun i hi he=>by omega)
     have Gk:c=pl:=by
      have h1:=qJ;rw[Tk.out]at h1;simpa using h1.symm
     have bz:=RP (x:=0) (y:=none) b4 bZ;simp only[yF,gq,bZ]at bz xm;refine RM (b:=w.heap.size) (q:=bZ) (x:=0) (y:=none) (e:=j) (p:=c) rfl rfl rfl rfl bz ?_;refine⟨g,bZ,0,none,_,km,Gs,?_,xm,rfl,?_⟩
     ·rw[zo,yZ.out,Gk]
     ·rw[zo,yZ.out];intro h0;simp only at h0;omega
   ·have ej:j=8:=(by omega);have ku:=aey (F:=F) (fun i h1 h2=>HN.out i h1 (by omega));have yZ:Hid (pick F=(0,0)):=ku;clear ku HN;subst ej;have c5:wr.cell? ⟨g.b,5,none⟩=some (.int .i64 (dw g (bP s)).1.aC):=h4.ae.cell 5;have c6:wr.cell? ⟨g.b,6,none⟩=some (.map (some g.bn)):=h4.ae.cell 6;obtain⟨d0,d1,d2,d3,d4,d5,d6,d7⟩:=CE.ib;go_wp2_with fail;go_region;all_goals go_wp2_with fail
    all_goals
     have kz:=(RQ wr w.heap.size q (dw g (bP s)).1.aC (some g.bn)).drew;have xm:=xl.bY kz (fun i hi he=>by omega);have bz:=(RP (x:=(dw g (bP s)).1.aC) (y:=some g.bn) b4 q).drew;have szz:=kz.size;have Ls:=h4.kept kz (fun i hi he=>by have:=GY i hi;omega);have Lt:c_ (yF wr w.heap.size q (dw g (bP s)).1.aC (some g.bn)).drew w.heap.size (yF wr w.heap.size q (dw g (bP s)).1.aC (some g.bn)).drew.heap.size q (dw g (bP s)).2 (qD g (bP s)):=(Jh.kept kz (fun i h1 _ he=>by omega) XR).np (by omega) (by omega);simp only[yF,gq]at bz xm Ls Lt;refine RM (b:=w.heap.size) (q:=q) (x:=(dw g (bP s)).1.aC) (y:=some g.bn) (e:=0) (p:=0) rfl rfl rfl rfl bz ?_;refine⟨g,q,(dw g (bP s)).1.aC,some g.bn,_,km,Gs,?_,xm,rfl,?_⟩
     ·rw[zo,yZ.out]
     ·intro _;refine⟨rfl,rfl,?_,Lt,fun i hi=>by have:=GY i hi;omega⟩;rw[zo];exact Ls
 ·have mw:ix g s=(dw g (bP s)).1.au:=by simp[ix,U8]
  have h4:aZ w3 g false {(dw g (bP s)).1 with au:=ix g s}:=by rw[mw];exact h3
  obtain⟨w4,MJ⟩:∃w4,w4=w3:=⟨_,rfl⟩
  have yj:=Ql;have CE:=Pa;have Jh:=Qy;rw[<-MJ]at h4 yj CE Jh⊢;have XR:w2.heap.size<=w4.heap.size:=Nat.le_of_lt CE.lt;clear Ql h3 mw MJ Pa Qy
  have xl:I aq w w4:=((((I.refl aq w).alloc (.cells (ik bZ 0 none) 46)).trans aI).bY (yj) (fun i hi ho=>by
   have:=DS i (Ry ho);simp at this;omega))
  have GY:∀i,g.use i->w.heap.size+1<=i:=fun i hi=>by have:=DS i hi;simpa using this
  have Jf:¬g.aN w.heap.size:=fun ho=>by have:=GY _ (Ry ho);omega
  have b4:ay w4 w.heap.size (ik bZ 0 none) 46:=((ay.new w (ik bZ 0 none) 46).kept aI (fun hx=>hx)).kept yj Jf;have s1:w.heap.size+1<=w1.heap.size:=by have:=aI.size;simpa using this
  have s24:=yj.size;have hq1:w2.heap.size<w4.heap.size:=CE.lt;clear aI aG aQ yj;obtain⟨D,hD,hF⟩:=h4.fm;generalize zo:ix g s=F at*;simp only at hF;go_wp2_with fail;go_loopg [7] 6 (fun kk v wr=>∃j:Int,v=.int .i64 j/\2<=j/\j<=8/\kk=(8-j).toNat/\Hid (∀i,2<=i->i<j->F.get i=none)/\wr=w4)
  case atStart=>exact⟨2,rfl,by omega,by omega,rfl,fun i h1 h2=>by omega,rfl⟩
  case round=>
   obtain⟨j,rfl,ko,hj8,rfl,HN,rfl⟩:=hrel;have c3:wr.cell? ⟨g.b,3,none⟩=some (.map (some g.bf)):=h4.ae.cell 3;obtain⟨e0,e1,e2,e3,e4,e5,e6,e7,e8,e9⟩:=b4.Sj;obtain⟨f0,f1,f2,f3,f4,f5,f6,f7⟩:=b4.o7;have f8:=b4.frozen 8;have f9:=b4.frozen 9;simp only[bZ]at e0 e1 e2 e3 e4 e5 e6 e7 e8 e9;by_cases hj:j<=7
   ·have oF:keyOf prog 27 (.int .i64 j)=some (.int .i64 j):=keyOf_int_mk underlying27 (Cy (by omega))
    cases nS:F.get j with
    |none=>
     have hh:has D (.int .i64 j)=false:=by rw[hF.has,nS];rfl
     go_wp2_with (at_lookup;refine Bg _ rfl _ _ 80 rfl 27 3 .i64 yx underlying80 underlying3 (yO _) g.bf _ D rfl hD _ _ rfl oF ?_;intro c qJ zH)
     go_roundg (8-(j+1)).toNat
     case measure=>omega
     case rel=>
      refine⟨j+1,rfl,by omega,by omega,rfl,?_,rfl⟩;intro i h1 h2;by_cases hi:i=j
      ·rw[hi];exact nS
      ·exact HN.out i h1 (by omega)
    |some pl=>
     have hh:has D (.int .i64 j)=true:=by rw[hF.has,nS];rfl
     have zG:=hF.val j pl nS;have ku:=aex ko hj HN.out nS;have yZ:Hid (pick F=(j,pl)):=ku;have Tk:Hid (D.atKey (.int .i64 j) (.lit (.int .i64 0))=.lit (.int .i64 pl)):=zG;clear ku zG;go_wp2_with (at_lookup;refine Bg _ rfl _ _ 80 rfl 27 3 .i64 yx underlying80 underlying3 (yO _) g.bf _ D rfl hD _ _ rfl oF ?_;intro c qJ zH);have kz:=RQ wr w.heap.size bZ 0 none;have xm:=xl.bY kz (fun i hi he=>by omega)
     have Gk:c=pl:=by
      have h1:=qJ;rw[Tk.out]at h1;simpa using h1.symm
     have bz:=RP (x:=0) (y:=none) b4 bZ;simp only[yF,gq,bZ]at bz xm;refine RM (b:=w.heap.size) (q:=bZ) (x:=0) (y:=none) (e:=j) (p:=c) rfl rfl rfl rfl bz ?_;refine⟨g,bZ,0,none,_,km,Gs,?_,xm,rfl,?_⟩
     ·rw[zo,yZ.out,Gk]
     ·rw[zo,yZ.out];intro h0;simp only at h0;omega
   ·have ej:j=8:=(by omega);have ku:=aey (F:=F) (fun i h1 h2=>HN.out i h1 (by omega));have yZ:Hid (pick F=(0,0)):=ku;clear ku HN;subst ej;have c5:wr.cell? ⟨g.b,5,none⟩=some (.int .i64 (dw g (bP s)).1.aC):=h4.ae.cell 5;have c6:wr.cell? ⟨g.b,6,none⟩=some (.map (some g.bn)):=h4.ae.cell 6;obtain⟨d0,d1,d2,d3,d4,d5,d6,d7⟩:=CE.ib;go_wp2_with fail;go_region;all_goals go_wp2_with fail
    all_goals
     have kz:=(RQ wr w.heap.size q (dw g (bP s)).1.aC (some g.bn)).drew;have xm:=xl.bY kz (fun i hi he=>by omega);have bz:=(RP (x:=(dw g (bP s)).1.aC) (y:=some g.bn) b4 q).drew;have szz:=kz.size;have Ls:=h4.kept kz (fun i hi he=>by have:=GY i hi;omega);have Lt:c_ (yF wr w.heap.size q (dw g (bP s)).1.aC (some g.bn)).drew w.heap.size (yF wr w.heap.size q (dw g (bP s)).1.aC (some g.bn)).drew.heap.size q (dw g (bP s)).2 (qD g (bP s)):=(Jh.kept kz (fun i h1 _ he=>by omega) XR).np (by omega) (by omega);simp only[yF,gq]at bz xm Ls Lt;refine RM (b:=w.heap.size) (q:=q) (x:=(dw g (bP s)).1.aC) (y:=some g.bn) (e:=0) (p:=0) rfl rfl rfl rfl bz ?_;refine⟨g,q,(dw g (bP s)).1.aC,some g.bn,_,km,Gs,?_,xm,rfl,?_⟩
     ·rw[zo,yZ.out]
     ·intro _;refine⟨rfl,rfl,?_,Lt,fun i hi=>by have:=GY i hi;omega⟩;rw[zo];exact Ls
def df(a b:bu):Prop:=(b.form=none->a.form=none)/\(b.rep=none->a.rep=none)/\(b.cls=none->a.cls=none)
def fD(a:bu):Prop:=a.form=none/\a.rep=none/\a.cls=none
theorem df.refl(a:bu):df a a:=⟨fun h=>h,fun h=>h,fun h=>h⟩
theorem df.trans{b c:bu}(h:df a b)(h':df b c):df a c:=⟨fun x=>h.1 (h'.1 x),fun x=>h.2.1 (h'.2.1 x),fun x=>h.2.2 (h'.2.2 x)⟩
theorem df.kh{b:bu}(h:df a b)(hb:fD b):fD a:=⟨h.1 hb.1,h.2.1 hb.2.1,h.2.2 hb.2.2⟩
theorem df.bG(a:bu)(e p:Int):df a (a.bG e p):=by
 unfold bu.bG bu.put;(repeat' split)<;>first|exact df.refl _|(refine⟨fun h=>?_,fun h=>?_,fun h=>?_⟩<;>first|exact h|simp at h)
theorem adv:(a.bG 4 p).rep≠none:=by
 cases h:a.rep with
 |none=>simp[bu.bG,bu.put,bu.get,h]
 |some x=>simp[bu.bG,bu.get,h]
theorem alv:(a.bG 5 p).cls≠none:=by
 cases h:a.cls with
 |none=>simp[bu.bG,bu.put,bu.get,h]
 |some x=>simp[bu.bG,bu.get,h]
theorem WZ:(a.bG 3 p).form≠none:=by
 cases h:a.form with
 |none=>simp[bu.bG,bu.put,bu.get,h]
 |some x=>simp[bu.bG,bu.get,h]
theorem JS(g:RG)(st:RS):df st.au (mJ g st).au:=df.bG _ _ _
theorem tn(g:RG)(l:List UInt8)(st:RS):df st.au (di g l st).au:=by
 unfold di;split
 ·exact df.refl _
 ·exact JS g st
theorem adj(g:RG)(l:List UInt8)(st:RS):df st.au (lF g l st).au:=by
 unfold lF;split
 ·exact JS g st
 ·exact df.refl _
theorem AR(g:RG)(l:List UInt8)(st:RS):df st.au (bT g l st).au:=by
 unfold bT;split<;>exact df.refl _
theorem Xi(g:RG)(st:RS):df st.au (ey g st).1.au:=by
 unfold ey;split
 ·exact df.refl _
 ·exact JS g st
theorem Xo(g:RG)(st:RS):df st.au (aK g st).1.au:=by
 unfold aK;split
 ·exact(Xi g st).trans (Xi g _)
 ·exact Xi g st
theorem al2(g:RG)(st:RS):df st.au (n_ g st).1.au:=by
 unfold n_;split
 ·exact df.refl _
 ·exact Xo g st
theorem alQ(g:RG)(st:RS):df st.au (cT g st).1.au:=by
 unfold cT;split
 ·exact((Xo g st).trans (al2 g {(aK g st).1 with next:=(aK g st).1.next+1})).trans (tn g _ _)
 ·exact(Xo g st).trans (tn g _ _)
theorem RJ(g:RG)(a:PT)(st:RS):df st.au (dU g a st).1.au:=by
 unfold dU;split
 ·exact AR g _ {st with next:=st.next+1}
 ·split
  ·exact AR g _ {st with next:=st.next+1}
  ·split
   ·exact AR g _ {st with next:=st.next+1}
   ·split
    ·have h1:=alQ g {st with next:=st.next+1};simp only;refine df.trans ?_ (AR g _ _);split
     ·exact h1.trans (df.bG _ _ _)
     ·exact h1
    ·exact df.refl _
theorem amg(g:RG)(e:Bool)(st:RS):df st.au (je g e st).1.au:=by
 unfold je
 cases e
 ·exact adj g _ st
 ·exact tn g _ st
theorem aep(g:RG)(st:RS):df st.au (a_ g st).1.au:=(AR g _ st).trans (amg g _ _)
theorem Xz(g:RG)(p:Int)(x:RS×Int):df x.1.au (jT g p x).au:=by
 unfold jT;split
 ·have h1:=aep g {x.1 with next:=x.1.next+1};split
  ·exact h1.trans (df.bG _ _ _)
  ·exact h1
 ·exact df.refl _
theorem ad7(g:RG)(st:RS):df st.au (cK g st).au:=by
 unfold cK;split
 ·exact df.refl _
 ·exact(aep g st).trans (Xz g _ _)
theorem Ny(g:RG):∀(m:Nat) (st:RS),df st.au (fu g m st).au
 |0,st=>df.refl _
 |m+1,st=>by
  unfold fu;split
  ·exact df.refl _
  ·exact(ad7 g st).trans (Ny g m _)
theorem alV(g:RG)(st:RS):df st.au (iT g st).au:=(((AR g _ st).trans (ad7 g _)).trans (Ny g _ _)).trans (tn g _ _)
theorem aeh(g:RG)(first:Nat):∀(m:Nat) (st:RS),df st.au (fB g first m st).au
 |0,st=>df.refl _
 |m+1,st=>by
  unfold fB;split
  ·exact aeh g first m {st with next:=st.next+1}
  ·exact df.refl _
theorem amc(g:RG)(first:Nat)(st:RS):df st.au (jd g first st).au:=by
 unfold jd;split
 ·exact df.bG _ _ _
 ·exact df.refl _
theorem al8(g:RG)(st:RS):df st.au (jS g st).au:=(((tn g _ st).trans (aeh g _ _ _)).trans (amc g _ _)).trans (tn g _ _)
theorem alZ(g:RG)(st:RS):df st.au (dy g st).au:=by
 unfold dy;split
 ·exact df.refl _
 ·split
  ·exact al8 g {st with next:=st.next+2,aC:=st.aC+1}
  ·exact(AR g _ {st with next:=st.next+1}).trans (tn g _ _)
theorem alO(g:RG)(aw:RS->RS×PT)(halt:∀st,df st.au (aw st).1.au)(st:RS):df st.au (bD g aw st).1.au:=by
 unfold bD;split
 ·exact((alZ g {st with next:=st.next+1}).trans (halt _)).trans (tn g _ _)
 ·split
  ·exact alV g {st with next:=st.next+1}
  ·split
   ·exact tn g _ {st with next:=st.next+1}
   ·split
    ·exact df.refl _
    ·exact adj g _ st
theorem ND(g:RG)(aw:RS->RS×PT)(halt:∀st,df st.au (aw st).1.au):∀(m:Nat) (st:RS) (aA:List PT),df st.au (eA g aw m st aA).1.au
 |0,st,aA=>df.refl _
 |m+1,st,aA=>by
  unfold eA;split
  ·exact df.refl _
  ·exact((alO g aw halt st).trans (RJ g _ _)).trans (ND g aw halt m _ _)
theorem aes(g:RG)(aw:RS->RS×PT)(halt:∀st,df st.au (aw st).1.au)(st:RS):df st.au (cU g aw st).1.au:=ND g aw halt _ _ _
theorem EP(g:RG)(aw:RS->RS×PT)(halt:∀st,df st.au (aw st).1.au):∀(m:Nat) (st:RS) (aA:List PT),df st.au (eE g aw m st aA).1.au
 |0,st,aA=>df.refl _
 |m+1,st,aA=>by
  unfold eE;split
  ·exact(aes g aw halt {st with next:=st.next+1}).trans (EP g aw halt m _ _)
  ·exact df.refl _
theorem Nx(g:RG):∀(k:Nat) (st:RS),df st.au (aE g k st).1.au
 |0,st=>df.refl _
 |k+1,st=>by
  unfold aE;exact(aes g _ (Nx g k) st).trans (EP g _ (Nx g k) _ _ _)
theorem Xb:∀{a b:List CT},CT.de a->CT.de b->CT.de (a++b)
 | [],b,_,hb=>hb
 |c::a,b,ha,hb=>by
  unfold CT.de at ha;show CT.de (c::(a++b))
  unfold CT.de;exact⟨ha.1,Xb ha.2 hb⟩
theorem Ns{c:CT}(h:c.ok):CT.de [c]:=by unfold CT.de;exact⟨h,by unfold CT.de;trivial⟩
theorem Nf(sp:bN)(fo nt:Bool):(kM sp fo nt).ok:=by
 unfold kM CT.ok CT.de;simp
theorem aaS(e:Int):(sJ e).ok:=by
 unfold sJ CT.ok CT.de;simp
theorem aaG(g:RG)(st:RS):0<=(ey g st).2/\(ey g st).2<=9:=by
 unfold ey;split
 ·rename_i h
  have:=G0 h;simp only;omega
 ·simp
theorem adz(g:RG)(st:RS):0<=(aK g st).2/\(aK g st).2<=99:=by
 have h1:=aaG g st;unfold aK;split
 ·have h2:=aaG g (ey g st).1;simp only;omega
 ·omega
theorem ajf(g:RG)(st:RS): -1<=(n_ g st).2/\(n_ g st).2<=99:=by
 have h1:=adz g st;unfold n_;split
 ·simp
 ·omega
theorem aal(g:RG)(st:RS):(0<=(cT g st).2.1/\(cT g st).2.1<=99)/\(-1<=(cT g st).2.2/\(cT g st).2.2<=99):=by
 have h1:=adz g st;have h2:=ajf g {(aK g st).1 with next:=(aK g st).1.next+1};unfold cT;split
 ·exact⟨h1,h2⟩
 ·simp only;omega
theorem Sk{a:CT}(ha:a.ok){lo hi:Int}(lz:Bool)(h:0<=lo/\lo<=20/\ -1<=hi/\hi<=20/\(hi= -1\/lo<=hi)):(pj a lo hi lz).ok:=by
 unfold pj CT.ok;exact⟨by omega,by simp,by simp,fun _=>h,Ns ha⟩
theorem anb(g:RG){a:CT}(ha:a.ok)(p:PT)(st:RS)(hc:fD (dU g p st).1.au):(nH g a st).ok:=by
 unfold dU at hc;unfold nH;split
 ·exact Sk ha _ (by omega)
 ·rename_i h1
  rw[if_neg h1]at hc;split
  ·exact Sk ha _ (by omega)
  ·rename_i h2
   rw[if_neg h2]at hc;split
   ·exact Sk ha _ (by omega)
   ·rename_i h3
    rw[if_neg h3]at hc;split
    ·rename_i h4
     rw[if_pos h4]at hc;have hb:=aal g {st with next:=st.next+1};have wM:=(AR g _ _).kh hc;refine Sk ha _ ?_;by_cases hx:(cT g {st with next:=st.next+1}).2.1>20\/(cT g {st with next:=st.next+1}).2.2>20\/((cT g {st with next:=st.next+1}).2.2≠ -1/\(cT g {st with next:=st.next+1}).2.2<(cT g {st with next:=st.next+1}).2.1)
     ·rw[if_pos hx]at wM;exact absurd wM.2.1 adv
     ·omega
    ·exact ha
theorem agk(g:RG)(aw:RS->RS×PT)(bL:Bool->RS->CT)(oD:∀fo st,fD (aw st).1.au->(bL fo st).ok)(fo:Bool)(st:RS)(hc:fD (bD g aw st).1.au):(jL g bL fo st).ok:=by
 unfold bD at hc;unfold jL;split
 ·rename_i h1
  rw[if_pos h1]at hc;have cP:=(tn g _ _).kh (show fD (di g vD (aw (dy g {st with next:=st.next+1})).1).au from hc)
  have:∀(fo:Bool) (gr:Int),(CT.node 2 [] false false 0 gr 0 0 false [bL fo (dy g {st with next:=st.next+1})]).ok:=by
   intro fo gr;unfold CT.ok;exact⟨by omega,by simp,by simp,by simp,Ns (oD _ _ cP)⟩
  unfold tO;split
  ·exact this _ _
  ·split
   ·exact this _ _
   ·exact this _ _
 ·split
  ·exact Nf _ _ _
  ·split
   ·unfold mi;(repeat' split)<;>first|exact Nf _ _ _|exact aaS _
   ·split
    ·unfold Is;split<;>first|exact Nf _ _ _|exact aaS _
    ·exact Nf _ _ _
theorem ae2(g:RG)(aw:RS->RS×PT)(halt:∀st,df st.au (aw st).1.au)(bL:Bool->RS->CT)(oD:∀fo st,fD (aw st).1.au->(bL fo st).ok)(fo:Bool):∀(m:Nat) (st:RS) (aA:List CT) (ps:List PT),CT.de aA->fD (eA g aw m st ps).1.au->CT.de (lO g aw bL fo m st aA)
 |0,st,aA,ps,ha,hc=>ha
 |m+1,st,aA,ps,ha,hc=>by
  unfold eA at hc;unfold lO;split
  ·exact ha
  ·rename_i h1
   rw[if_neg h1]at hc;have c1:=(ND g aw halt m _ _).kh hc;have c2:=(RJ g _ _).kh c1;exact ae2 g aw halt bL oD fo m _ _ _ (Xb ha (Ns (anb g (agk g aw bL oD fo st c2) _ _ c1))) hc
theorem ae0(g:RG)(aw:RS->RS×PT)(halt:∀st,df st.au (aw st).1.au)(bL:Bool->RS->CT)(oD:∀fo st,fD (aw st).1.au->(bL fo st).ok)(fo:Bool)(st:RS)(hc:fD (cU g aw st).1.au):(nI g aw bL fo st).ok:=by
 have:=ae2 g aw halt bL oD fo _ st [] [] (by unfold CT.de;trivial) hc;unfold nI CT.ok;exact⟨by omega,by simp,by simp,by simp,this⟩
theorem ZZ(g:RG)(aw:RS->RS×PT)(halt:∀st,df st.au (aw st).1.au)(bL:Bool->RS->CT)(oD:∀fo st,fD (aw st).1.au->(bL fo st).ok)(fo:Bool):∀(m:Nat) (st:RS) (aA:List CT) (ps:List PT),CT.de aA->aA≠ []->fD (eE g aw m st ps).1.au->CT.de (ke g aw bL fo m st aA)/\ke g aw bL fo m st aA≠ []
 |0,st,aA,ps,ha,aF,hc=>⟨ha,aF⟩
 |m+1,st,aA,ps,ha,aF,hc=>by
  unfold eE at hc;unfold ke;split
  ·rename_i h1
   rw[if_pos h1]at hc;have c1:=(EP g aw halt m _ _).kh hc;exact ZZ g aw halt bL oD fo m _ _ _ (Xb ha (Ns (ae0 g aw halt bL oD fo _ c1))) (by simp) hc
  ·exact⟨ha,aF⟩
theorem TY(g:RG):∀(k:Nat) (fo:Bool) (st:RS),fD (aE g k st).1.au->(dW g k fo st).ok
 |0,fo,st,hc=>Nf _ _ _
 |k+1,fo,st,hc=>by
  unfold aE at hc;have hle:=Nx g k;have c1:=(EP g (aE g k) hle _ _ _).kh hc;have h1:=ae0 g (aE g k) hle (dW g k) (fun fo st=>TY g k fo st) fo st c1;have h2:=ZZ g (aE g k) hle (dW g k) (fun fo st=>TY g k fo st) fo _ _ _ _ (Ns h1) (by simp) hc;unfold dW CT.ok;exact⟨by omega,by simp,fun _=>h2.2,by simp,h2.1⟩
theorem apl(g:RG)(st:RS)(hc:fD (dw g st).1.au):(qD g st).ok:=by
 refine TY g _ false st ?_;unfold dw at hc;split at hc
 ·exact hc
 ·exact(JS g _).kh hc
theorem ae5:∀(ts:List PT) (cs:List CT),cs.length=ts.length->(∀i,(h:i<ts.length)->(h':i<cs.length)->(cs[i]).sz=(ts[i]).size)->CT.cW cs=PT.iC ts
 | [],[],_,_=>by simp[CT.cW,PT.iC]
 |t::ts,c::cs,hl,h=>by
  have h0:=h 0 (by simp) (by simp);have hr:=ae5 ts cs (by simpa using hl) (fun i h1 h2=>by have:=h (i+1) (by simpa using h1) (by simpa using h2);simpa using this);simp only[CT.cW,PT.iC];simp only[Ap]at h0;omega
 | [],c::cs,hl,_=>by simp at hl
 |t::ts,[],hl,_=>by simp at hl
theorem c_.size_eq(h:c_ w lo hi q T C):C.sz=T.size:=by
 induction h with
 |mk q tk pb bs ts cs V S sp fo nt hn hb hc hk hs td hr qh ih=>
  have e:=ae5 ts cs hn.2.1 (fun i h1 h2=>ih i h1 h2);have e2:(cs.length:Int)=ts.length:=by rw[hn.2.1]
  unfold CT.sz PT.size;rcases qh with⟨h1,h2,_⟩|⟨h1,h2⟩|⟨h1,h2⟩|⟨h1,h2⟩|⟨h1,h2,_⟩|⟨h1,h2⟩<;>rw[h1,h2,e]<;>simp[e2]
theorem amx(h:(pick F).1=0):fD F/\F.rF=none:=by
 unfold pick at h;unfold fD
 cases h1:F.dd<;>rw[h1]at h<;>simp only at h
 ·cases h2:F.form<;>rw[h2]at h<;>simp only at h
  ·cases h3:F.rep<;>rw[h3]at h<;>simp only at h
   ·cases h4:F.cls<;>rw[h4]at h<;>simp only at h
    ·cases h5:F.kX<;>rw[h5]at h<;>simp only at h
     ·cases h6:F.rF<;>rw[h6]at h<;>simp only at h
      ·exact⟨⟨rfl,rfl,rfl⟩,rfl⟩
      ·omega
     ·omega
    ·omega
   ·omega
  ·omega
 ·omega
theorem alu:(a.bG 7 p).rF≠none:=by
 cases h:a.rF with
 |none=>simp[bu.bG,bu.put,bu.get,h]
 |some x=>simp[bu.bG,bu.get,h]
theorem aa8{g:RG}{s:ByteArray}(h:(pick (ix g s)).1=0):fD (dw g (bP s)).1.au/\(dw g (bP s)).2.size<=1000:=by
 obtain⟨h1,h2⟩:=amx h;unfold ix at h1 h2;by_cases hs:1000<(dw g (bP s)).2.size
 ·rw[if_pos hs]at h2;exact absurd h2 alu
 ·rw[if_neg hs]at h1;exact⟨h1,by omega⟩
theorem lM.WG{s:Int}(h:lM M V s V'):V'.bV.length+V.aR.length<=V.bV.length+V'.aR.length:=by
 induction h with
 |sR V s v h hv=>omega
 |stop V s m hn h hk=>simp[VS.put]
 |take V s m hn h hk=>simp[VS.put,VS.iz];omega
 |one V V' s m hn h hk hv ih=>simp only[VS.put,Ao];omega
 |cX V V' V2 s m hn h hk hv hw ih uv=>simp only[VS.put,Ao];omega
theorem ry.WG(h:ry M at_ V V'):V'.bV.length+V.aR.length<=V.bV.length+V'.aR.length:=by
 induction h with
 |done a V h=>omega
 |step a V V' V2 t h hv hl ih=>have:=hv.WG;omega
def xM(w:World)(lo hi base:Nat)(v:Value)(ms:List MS):Prop:=∃ws:List Sv,w.ownsRow base 96 6 v ms.length (jw ws)/\ws.length=ms.length/\∀i,(h:i<ws.length)->(h':i<ms.length)->gw w lo hi ws[i] ms[i]
theorem xM.kept{w':World}(h:xM w lo hi base v ms)(k:I K w w')(h1:∀i,lo<=i->i<hi->¬K i)(h2:∀i,v.ownBlock=some i->¬K i)(hle:hi<=w.heap.size):xM w' lo hi base v ms:=by
 obtain⟨ws,a1,a2,a3⟩:=h;exact⟨ws,dh a1 k h2,a2,fun i b1 b2=>(a3 i b1 b2).kept k h1 hle⟩
structure uS(C:CT)(V:VS)(j:Nat):Prop where
 first:(fR C).2.2=j
 ac3:ry (fR C).1 0 (VS.first (fR C).1.length j) V
 aV:∃R,jI (fR C).1 R V/\Shut (fR C).1 R/\R j
 all:pS (fR C).1
 num:∀t,(t=j\/∃(s:Nat) (m:MS),s∈V.aR/\(fR C).1[s]? =some m/\m.aT=1/\t=m.next.toNat)->∃u:Nat,V.num[t]? =some (u:Int)
theorem uS.exists(h:C.ok)(hs:C.sz<=1000):∃V j,uS C V j/\(fR C).1.length<=4001/\1<=(fR C).1.length:=by
 obtain⟨R,h1,⟨j,h2,h3⟩,h4,h5,h6⟩:=ag8 h hs;obtain⟨V,v1,v2,v3⟩:=alF h1 h3;exact⟨V,j,⟨h2,v1,⟨R,v2,h1,h3⟩,h4,v3⟩,h6,h5⟩
theorem uS.adJ(h:uS C V j):V.aR.length<=(fR C).1.length/\V.bV.length<=(fR C).1.length+1/\(∀s∈V.aR,s<(fR C).1.length)/\j<(fR C).1.length/\V.num.length=(fR C).1.length:=by
 obtain⟨R,h1,h2,h3⟩:=h.aV;have a:=h1.adI;have b:=h.ac3.WG;simp only[VS.first,A1,A8]at b;refine⟨a,by omega,fun s hs=>?_,?_,h1.len⟩
 ·obtain⟨k,hk,yt⟩:=Do hs;have:=h1.at_ k s (by rw[Ab hk,yt]);have:=(Af.1 this).1;rw[h1.len]at this;exact this
 ·obtain⟨m,hm,_⟩:=h2.cl j h3;exact(Af.1 hm).1
theorem uS.start(h:uS C V j):∃u:Nat,V.num.getD j 0=(u:Int)/\u<V.aR.length:=by
 obtain⟨u,hu⟩:=h.num j (Or.inl rfl);obtain⟨R,h1,_⟩:=h.aV;obtain⟨k,hk,aG⟩:=h1.has j u hu (by omega);have e:k=u:=by omega
 subst e;exact⟨k,by rw[Ae,hu];rfl,(Af.1 aG).1⟩
theorem dH.qZ{st:List MS}(h:dH w b lo hi v st)(aF:st≠ []):∃g c vs,v=.slice (some ⟨g,0,none⟩) st.length c/\jg w g vs st/\∀i,(h:i<vs.length)->(h':i<st.length)->gw w lo hi vs[i] st[i]:=by
 obtain⟨vs,h1,h2,h3⟩:=h.row;obtain⟨hx,jx⟩:=h1;rcases jx with⟨_,h0⟩|⟨g,cap,aU,rfl,a1,a2,a3,a4,a5,a6⟩
 ·exact absurd (Az.1 h0) aF
 ·refine⟨g,cap,vs,rfl,⟨h2,fun i aS j hj=>?_,(Ah.1 a2).1,fun i b1 b2=>⟨(h3 i b1 b2).k,(h3 i b1 b2).nx,(h3 i b1 b2).ot⟩⟩,h3⟩;have hf:=Un vs i (by omega) j hj;rw[<-hf,<-a6,Al (by omega)];simp only[World.cell?,a2];simp
theorem ak4(W:World)(p q:Int):(Instr.field 98 (.agg #[.int .i64 p,.int .i64 q]) 1).run prog W=.ok (.int .i64 q) W:=by
 simp[Instr.field,asAgg,go_sem]
theorem xM.block(h:xM w lo hi base v ms)(aS:v.ownBlock=some i):base<=i/\i<w.heap.size:=by
 obtain⟨ws,a1,_⟩:=h;exact cA a1 aS
theorem akU{f:Func}{a:Act}{q:Int}(mZ:f.results=#[ResultVar.cell i 52])(zE:a.tmps.getD i undef=.pointer (some ⟨c,0,none⟩))(hd:a.defers=[])
 (hb:ay W c #[v,.int .i64 p,.int .i64 q] 52)(hQ:Q (.returned (.agg #[v,.int .i64 p,.int .i64 q])) W)(hv:∃ao n k,v=.slice ao n k:=by exact⟨_,_,_,rfl⟩):bodyPost prog f Q Exit.ret a W:=by
 have r0:W.cell? ⟨c,0,none⟩=some v:=hb.cell 0;have r1:W.cell? ⟨c,1,none⟩=some (.int .i64 p):=hb.cell 1;have r2:W.cell? ⟨c,2,none⟩=some (.int .i64 q):=hb.cell 2;have oJ:a.tmps[i]?.getD undef=.pointer (some ⟨c,0,none⟩):=by simpa using zE
 obtain⟨ao,n,k,rfl⟩:=hv;exact Ct (v:=.agg #[.slice ao n k,.int .i64 p,.int .i64 q]) (by simp[results,mZ,go_sem,oJ,r0,r1,r2]) hd hQ
theorem afS(hP:c_ w lo hi q T C)(hle:hi<=w.heap.size)(bC:C.ok)(bm:C.sz<=1000)(x:Int)(y:Option Nat):
 Calls prog 13 #[uH q x y] w fun e w'=>∃(v':Value) (V:VS) (j:Nat),e=.returned (.agg #[v',.int .i64 (V.num.getD j 0),.int .i64 x])/\I aq w w'/\uS C V j/\xM w' lo hi w.heap.size v' (sorted (fR C).1 V)/\(fR C).1.length<=4001:=by
 obtain⟨V,j,UW,dA,Qp⟩:=uS.exists bC bm;obtain⟨o1,o2,o3,o4,o5⟩:=UW.adJ;have lS:=pf C bC bm;have Je:=CT.AQ C bC;have hx0:dv [cy].length (0,0):=by unfold dv;simp
 have PO:=ai (hP.amt (b:=w.heap.size+1+1) bC bm);have kA:I aq w ((w.alloc (.cells (ik q x y) 46)).alloc (.cells #[.slice none 0 0,.int .i64 0,.int .i64 0] 52)):=((I.refl aq w).alloc _).alloc _;have kB:I aq w (((w.alloc (.cells (ik q x y) 46)).alloc (.cells #[.slice none 0 0,.int .i64 0,.int .i64 0] 52)).alloc (.cells #[.slice none 0 0] 92)):=kA.alloc _
 have x7:dH (((w.alloc (.cells (ik q x y) 46)).alloc (.cells #[.slice none 0 0,.int .i64 0,.int .i64 0] 52)).alloc (.cells #[.slice none 0 0] 92)) (w.heap.size+1+1) lo hi (.slice none 0 0) []:=
  ⟨by have:=ay.new ((w.alloc (.cells (ik q x y) 46)).alloc (.cells #[.slice none 0 0,.int .i64 0,.int .i64 0] 52)) #[.slice none 0 0] 92;simpa using this,⟨[],At _ _ _ _,rfl,fun i h=>by simp at h⟩,by omega,by simp⟩
 have F1:=Ik x7 (gw.zero _ lo hi) (by simp);simp only[Sv.val,Sv.cells]at F1;have F1:=ai F1
 have KE:bJ (((w.alloc (.cells (ik q x y) 46)).alloc (.cells #[.slice none 0 0,.int .i64 0,.int .i64 0] 52)).alloc (.cells #[.slice none 0 0] 92)) (w.heap.size+1+1) (.slice none 0 0) w.heap.size (ik q x y) 46:=
  ⟨((ay.new w (ik q x y) 46).alloc _).alloc _,fun hx=>by rcases hx with hx|hx;(·omega);(·cases hx)⟩
 have KG:bJ (((w.alloc (.cells (ik q x y) 46)).alloc (.cells #[.slice none 0 0,.int .i64 0,.int .i64 0] 52)).alloc (.cells #[.slice none 0 0] 92)) (w.heap.size+1+1) (.slice none 0 0) (w.heap.size+1) #[.slice none 0 0,.int .i64 0,.int .i64 0] 52:=
  ⟨by have:=(ay.new (w.alloc (.cells (ik q x y) 46)) #[.slice none 0 0,.int .i64 0,.int .i64 0] 52).alloc (.cells #[.slice none 0 0] 92);simpa using this,fun hx=>by rcases hx with hx|hx;(·omega);(·cases hx)⟩
 have PK:=ai (And.intro KE (And.intro KG (And.intro kB x7)));have Ox:=ai UW;have Fm:=ai o3;clear kA kB x7 KE KG hP UW o3 lS;simp only[uH];simp only[ik]at*;go_in;go_wp2_with fail;refine(F1.out).mono ?_;rintro e w3 ⟨rfl,v3,h3,k3⟩;obtain⟨KE,KG,kB,x7⟩:=PK.out;have m0:=KE.bt k3;have m1:=KG.bt k3;have b0:ay w3 w.heap.size (ik q x y) 46:=m0.ae;obtain⟨t0,t1,t2,t3,t4,t5,t6,t7,t8,t9⟩:=b0.Sj;have S0:fs lo hi w (((w.alloc (.cells (ik q x y) 46)).alloc (.cells #[.slice none 0 0,.int .i64 0,.int .i64 0] 52)).alloc (.cells #[.slice none 0 0] 92)):=fun i _ h2=>kB.block i (by omega) (fun hx=>hx)
 have S3:=S0.bt x7 k3;have F2:=PO.out w3 v3 [cy] (0,0) h3 hx0 S3 (by simp;omega);simp only[Nv.val,Nv.cells,cY]at F2;have F2:=ai F2;have W3:I aq w w3:=kB.No k3.kept (fun i aS=>by have:=x7.aN aS;omega);have nA:=ai (And.intro m0 (And.intro m1 (And.intro W3 h3)));have aqN:=k3.kept.size;have wL:=h3.ae.lt;clear KE KG kB x7 m0 m1 b0 S0 S3 h3 k3 F1 PK W3 t8 t9;go_wp2_with fail;refine(F2.out).mono ?_;rintro e w4 ⟨rfl,v4,h4,k4⟩;obtain⟨m0,m1,W3,h3⟩:=nA.out;have n0:=m0.bt k4;have n1:=m1.bt k4;have W4:I aq w w4:=W3.No k4.kept (fun i aS=>by have:=h3.aN aS;omega)
 obtain⟨g,c,vs,vA,ack,uk⟩:=h4.qZ (by intro e;have:(fR C).1.length=0:=by rw[show(fR C).1=[]from e];rfl
                                     omega)
 subst vA;have c4:w4.cell? ⟨w.heap.size+1+1,0,none⟩=some (.slice (some ⟨g,0,none⟩) (fR C).1.length c):=h4.ae.cell 0;have abS:=Ox.out.first
 have aqS:=W4.size;have F3:=ajX (c:=c) (lo:=lo) (hi:=hi) (start:=j) (VF:=V) ack uk (by omega) Ox.out.all dA Ox.out.ac3 (by omega) (by omega) Fm.out o4;have F3:=ai F3;have hmv:=ak4 w4 (bQ C [cy] (0,0)).2.1 (bQ C [cy] (0,0)).2.2;have Vo:(bQ C [cy] (0,0)).2.2=(j:Int):=abS;rw[Vo]at hmv;simp only;rw[Vo];have b0:ay w4 w.heap.size (ik q x y) 46:=n0.ae;have kJ:=ai (And.intro n0.ae (And.intro n1.ae W4));have yd:=h4.ae.lt;clear m0 m1 W3 h3 n0 n1 W4 ack uk h4 k4 F2 nA b0 abS Vo;go_wp2_with fail;refine(F3.out).mono ?_;rintro e w5 ⟨v',ws,rfl,k5,r1,r2,r3⟩;obtain⟨n0,n1,W4⟩:=kJ.out;have p0:=n0.kept k5 (fun hx=>hx);have p1:=n1.kept k5 (fun hx=>hx);have c8:w5.cell? ⟨w.heap.size,8,none⟩=some (.int .i64 x):=p0.cell 8;have q0:w5.cell? ⟨w.heap.size+1,0,none⟩=some (.slice none 0 0):=p1.cell 0;have q1:w5.cell? ⟨w.heap.size+1,1,none⟩=some (.int .i64 0):=p1.cell 1;have q2:w5.cell? ⟨w.heap.size+1,2,none⟩=some (.int .i64 0):=p1.cell 2;have g0:=p1.frozen 0;have g1:=p1.frozen 1;have g2:=p1.frozen 2;obtain⟨OX,cv,rfl⟩:=dY r1;have s5:=k5.size;have MC:xM w5 lo hi w4.heap.size (.slice OX V.aR.length cv) (sorted (fR C).1 V):=⟨ws,by simpa[sorted]using r1,by simpa[sorted]using r2,r3⟩;have aO:Hid (I aq w w5/\xM w5 lo hi w4.heap.size (.slice OX V.aR.length cv) (sorted (fR C).1 V)/\ay w5 (w.heap.size+1) #[.slice none 0 0,.int .i64 0,.int .i64 0] 52):=⟨W4.trans k5,MC,p1⟩;generalize hu:V.num.getD j 0=u at*;have HU:=ai hu;clear n0 n1 W4 p0 p1 r1 r2 r3 k5 F3 kJ MC hu;go_wp2_with fail;obtain⟨f1,f2,f3⟩:=aO.out;have B3:=((f3.setCell 0 (.slice OX V.aR.length cv)).setCell 1 (.int .i64 u)).setCell 2 (.int .i64 x)
 have k8:I (fun i=>i=w.heap.size+1) w5 (((w5.setCell ⟨w.heap.size+1,0,none⟩ (.slice OX V.aR.length cv)).setCell ⟨w.heap.size+1,1,none⟩ (.int .i64 u)).setCell ⟨w.heap.size+1,2,none⟩ (.int .i64 x)):=
  (((I.refl (fun i=>i=w.heap.size+1) w5).setCell (p:=⟨w.heap.size+1,0,none⟩) (Or.inl rfl) _).setCell (p:=⟨w.heap.size+1,1,none⟩) (Or.inl rfl) _).setCell (p:=⟨w.heap.size+1,2,none⟩) (Or.inl rfl) _
 refine akU results13 rfl rfl B3 ⟨_,V,j,by rw[HU.out],f1.No k8 (fun i aS=>by omega),Ox.out,?_,dA⟩;have f2':=f2.kept k8 (fun i _ h2 e=>by omega) (fun i aS e=>by have:=f2.block aS;omega) (by omega);obtain⟨ws',UC,UD,UE⟩:=f2';exact⟨ws',Hj UC (by omega),UD,UE⟩
end Go.Proofs.YtmbpfhlnifdhgaaGreatDoor
