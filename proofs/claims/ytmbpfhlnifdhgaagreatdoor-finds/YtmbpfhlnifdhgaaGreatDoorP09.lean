/- The reference's events -/
import Derived.Test.YtmbpfhlnifdhgaaGreatDoorP08
set_option linter.unusedVariables false
set_option linter.unusedSimpArgs false
set_option maxRecDepth 100000
set_option maxHeartbeats 8000000
namespace Go.Proofs.YtmbpfhlnifdhgaaGreatDoor
open Go.Proofs.Tryz
open Go.RowKit
variable {c:CI} {E:EG} {G G1 G2:GH} {s:Int} {S Z:List CI} {gs:List Int} {eK to0 ts:List Nat} {zs:List Value} {a a' b b' c0 cg ct sK d gb hi i j k l lb lc lo nb tb q9:Nat} {K N N':Nat->Prop} {ag ao at' at_:Option Addr} {n:RT} {v v' v1 vc vm z:Value} {w w' w1 w2 w3 wr:World}
theorem aeH(h:ee w G E (c::S) i gs ts (.pointer (some ⟨b,0,none⟩)) ag gb cg at_ tb ct)(hB:BlE E i (wS i (c::S) ts))(hn:c.n=some n)(ho:n.op=fi)(hl:cF n c S=[Z])(hR:lj w w2 G G2 E b c S n nb lb lc vm zs):
 ∃z0,zs=[z0]/\(∀w3 (rz:Option Addr) (gi rH:Nat),I aq w2 w3->fL w3 rz gi (qm E.x gs n.bK i)->gs.length<=rH->¬G2.mu gi->Calls prog 20 #[.pointer (some ⟨E.xb,0,none⟩),z0,.int .i64 i,.slice rz gs.length rH,.slice at_ ts.length ct] w3 (dV (wS i (c::S) ts) w G E (c::S) i gs ts)):=by
 have dA:=hR.laid.len;rw[hl]at dA;obtain⟨z0,rfl⟩:=Db.1 dA;refine⟨z0,rfl,fun w3 rz gi rH aQ dS Vc ud=>?_⟩;have DM:n.op≠ec:=by rw[ho];decide
 have jl:G.mu b:=Or.inl (by rw[h.head];simp);have iN:=hR.aV.kept aQ;have kE:I (fun j=>j=b) w w3:=hR.kept.trans (aQ.mono (fun _ q=>q.elim));have mW:=h.later iN hR.ext kE (fun j hj=>by subst hj;exact jl);have UU:=hR.laid.ext (ef.refl w2 G2) hR.aV.lt aQ (fun _ q=>q.elim);have jz:(qm E.x gs n.bK i).length=gs.length:=by unfold qm;simp
 have hZ:=mW.laid hn DM UU 0 (by simp) (by rw[hl];simp) dS (by rw[jz];exact h.gl) (by rw[jz];exact Vc) (fun _=>ud);have e0:(cF n c S)[0]'(by rw[hl];simp)=Z:=by simp[hl]
 rw[e0]at hZ;have DF:=WH (S:=S) (i:=i) (ts:=ts) hn (h.ok c Aq) DM Z (by rw[hl];simp);have HC:=hB w3 G2 Z i (qm E.x gs n.bK i) ts _ rz gi rH at_ tb ct hZ (Or.inr ⟨rfl,DF⟩);rw[jz]at HC;refine HC.mono ?_;rintro e w4 hP;refine hP.later h.aV.lt hR.ext kE (fun j hj=>by subst hj;exact jl) (hR.stay.trans h.aV.lt hR.ext.jt (mh.quiet hR.aV.lt aQ)) (Or.inr ⟨rfl,DF⟩) jz (fun r hr=>?_);refine cV.Rb hn (Or.inr (Or.inr (Or.inl ho))) ?_;rw[hl,if_pos ho];exact lK.one hr
theorem aoK(h:ee w G E (c::S) i gs ts (.pointer (some ⟨b,0,none⟩)) ag gb cg at_ tb ct)(hB:BlE E i (wS i (c::S) ts))(hn:c.n=some n)(ho:n.op=fi)(hl:cF n c S=[Z])(hR:lj w w G G E b c S n nb lb lc vm zs):
 Calls prog 38 #[.pointer (some ⟨E.xb,0,none⟩),.pointer (some ⟨b,0,none⟩),.int .i64 i,.slice ag gs.length cg,.slice at_ ts.length ct] w (dV (wS i (c::S) ts) w G E (c::S) i gs ts):=by
 obtain⟨z0,rfl,Kk⟩:=aeH h hB hn ho hl hR;obtain⟨dQ,dq⟩:=hR.ae;obtain⟨ao,bk,cap,P,hF⟩:=hR.node
 obtain⟨m,DH,DI,ud⟩:∃m:Nat,1<=m/\m<=E.K/\n.bK=m:=by
  rcases RT.z8 (h.JE hn)with q|q|q|q|q|q|q
  ·rw[ho]at q;exact absurd q (by decide)
  ·rw[ho]at q;exact absurd q (by decide)
  ·rw[ho]at q;exact absurd q (by decide)
  ·rw[ho]at q;exact absurd q.1 (by decide)
  ·exact⟨n.bK.toNat,by omega,by omega,by omega⟩
  ·rw[ho]at q;exact absurd q.1 (by decide)
  ·rw[ho]at q;exact absurd q.1 (by decide)
 have c0:w.cell? ⟨b,0,none⟩=some (.pointer (some ⟨nb,0,none⟩)):=dq.cell 0;have c6:w.cell? ⟨b,6,none⟩=some (.slice (some ⟨lb,0,none⟩) 1 lc):=dq.cell 6;have n0:w.cell? ⟨nb,0,none⟩=some (.string ⟨#[103,114,111,117,112]⟩):=by have:=hF.op;rw[ho]at this;exact this
 have n5:w.cell? ⟨nb,5,none⟩=some (.int .i64 m):=by have:=hF.bK;rw[ud]at this;exact this
 have l0:w.cell? ⟨lb,0,none⟩=some z0:=hR.laid.cell 0 (by simp);have wQ:=h.kl;have jz:=h.gl;have hd:Int.tdiv (gs.length:Int) 3=E.K:=by rw[jz,show((3*E.K:Nat):Int)=3*(E.K:Int)from by omega];exact D5 _ (by decide)
 have Kj:Hid (∀w2,I aq w w2->Calls prog 21 #[.pointer (some ⟨E.xb,0,none⟩),.int .i64 i] w2 fun e w'=>e=.returned (.int .i64 (E.x.eX i))/\w'=w2):=fun w2 hk=>TJ (h.aV.kept hk).tx i
 have ji:=dq.lt;have ajp:=hR.laid.lt;have Ot:Hid (gs.length=3*E.K):=jz;have hg9:gs.length<=900:=by omega
 have I3:E.K*2+m-1<gs.length:=by omega
 have Fk:Hid (∀w2,I aq w w2->Calls prog 64 #[.slice ag gs.length cg,.int .i64 (IntKind.i64.wrap (IntKind.i64.wrap (IntKind.i64.wrap (IntKind.i64.wrap (E.K:Int)*2)+(m:Int))-1)),.int .i64 (E.x.eX i)] w2 fun e w'=>∃gi fV,e=.returned (.slice (some ⟨gi,0,none⟩) gs.length fV)/\gs.length<=fV/\w2.heap.size<=gi/\fL w' (some ⟨gi,0,none⟩) gi (qm E.x gs n.bK i)/\I aq w2 w'):=fun w2 hk=>by
  rw[show IntKind.i64.wrap (IntKind.i64.wrap (IntKind.i64.wrap (IntKind.i64.wrap (E.K:Int)*2)+(m:Int))-1)=((E.K*2+m-1:Nat):Int)from by
   rw[Dr (E.K:Int) (by omega) (by omega),Dr ((E.K:Int)*2) (by omega) (by omega),Dr ((E.K:Int)*2+m) (by omega) (by omega),Dr _ (by omega) (by omega)];omega]
  have e:qm E.x gs n.bK i=gs.set (E.K*2+m-1) (E.x.eX i):=by
   unfold qm;rw[ud,Cj,show gs.length/3*2+m-1=E.K*2+m-1 from by omega]
  rw[e];exact Rs (h.rg.kept hk (fun _ q=>q)) (E.K*2+m-1) (E.x.eX i) I3 (by omega) h.gc
 have HI:Hid (du w G E):=h.aV;have jj:=ji;have I9:=ajp;have T6:=c6;have WQ:=l0;have HA:Hid (ee w G E (c::S) i gs ts (.pointer (some ⟨b,0,none⟩)) ag gb cg at_ tb ct):=h;have SK:Hid (∀w3 (rz:Option Addr) (gi rH:Nat),I aq w w3->fL w3 rz gi (qm E.x gs n.bK i)->gs.length<=rH->¬G.mu gi->Calls prog 20 #[.pointer (some ⟨E.xb,0,none⟩),z0,.int .i64 i,.slice rz gs.length rH,.slice at_ ts.length ct] w3 (dV (wS i (c::S) ts) w G E (c::S) i gs ts)):=Kk;clear hR hF dq jz h hB Kk ho hl ud;go_in;go_wp2_with fail;go_region_with (first|(go_at_call 21;refine(Kj.out _ (by first|exact I.refl _ _|exact(I.refl _ _).drew)).mono ?_;rintro e w2 ⟨rfl,rfl⟩)|(go_at_call 64;refine(Fk.out _ (by first|exact I.refl _ _|exact(I.refl _ _).drew)).mono ?_;rintro e w3 ⟨sM,FM,rfl,wM,py,kC,aG⟩;have zN:I aq w w3:=(by first|exact aG|exact(I.refl aq w).drew.trans aG);have acg:w.heap.size<=sM:=py))
 all_goals
  have d6:w3.cell? ⟨b,6,none⟩=some (.slice (some ⟨lb,0,none⟩) 1 lc):=by rw[zN.cell (p:=⟨b,6,none⟩) jj (fun q=>q)];exact T6
  have m0:w3.cell? ⟨lb,0,none⟩=some z0:=by rw[zN.cell (p:=⟨lb,0,none⟩) I9 (fun q=>q)];exact WQ
  have HC:=SK.out w3 (some ⟨sM,0,none⟩) sM FM zN kC wM (fun q=>by have:=HI.out.lt sM q;omega);clear kC;go_wp2_with fail;refine HC.mono ?_;rintro e w4 ⟨G4,r,q1,q2,q3,q4,q5⟩
  cases r with
  |none=>
   obtain rfl:=q5;go_wp2_with fail;go_ret3;exact⟨G4,none,q1,q2,q3,q4,rfl⟩
  |some p=>
   obtain⟨eP,mV,lP,rfl,r2,r3,r4,r5,r6⟩:=q5;go_wp2_with fail;go_ret3;exact⟨G4,some p,q1,q2,q3,q4,eP,mV,lP,by rw[r3];rfl,r2,r3,r4,r5,r6⟩
theorem ahh{p q:Addr}(h:q.block≠p.block):(w.setCell p v).cell? q=w.cell? q:=by
 simp only[World.cell?,Ca w p v q.block h]
theorem aoJ(mX:BM E)(h:ee w G E (c::S) i gs ts (.pointer (some ⟨b,0,none⟩)) ag gb cg at_ tb ct)(hB:BlE E i (wS i (c::S) ts))(hn:c.n=some n)(ho:n.op=fi)(hl:cF n c S=[Z]):
 Calls prog 38 #[.pointer (some ⟨E.xb,0,none⟩),.pointer (some ⟨b,0,none⟩),.int .i64 i,.slice ag gs.length cg,.slice at_ ts.length ct] w (dV (wS i (c::S) ts) w G E (c::S) i gs ts):=by
 have hb:=h.head;obtain⟨vm,vt,dQ,nb,ao,bk,cap,P,bC,iX,aM,hF⟩:=h.aV.open hb hn;rcases aM.next with lZ|⟨n',lb,lc,zs,q1,lZ,q3⟩
 ·have c0:w.cell? ⟨b,0,none⟩=some (.pointer (some ⟨nb,0,none⟩)):=aM.ae.cell 0;have c6:w.cell? ⟨b,6,none⟩=some vt:=aM.ae.cell 6;rw[lZ]at c6;have HL:=mX w G b c S n h.aV hb hn
  obtain⟨m,DH,DI,ud⟩:∃m:Nat,1<=m/\m<=E.K/\n.bK=m:=by
   rcases RT.z8 (h.JE hn)with q|q|q|q|q|q|q
   ·rw[ho]at q;exact absurd q (by decide)
   ·rw[ho]at q;exact absurd q (by decide)
   ·rw[ho]at q;exact absurd q (by decide)
   ·rw[ho]at q;exact absurd q.1 (by decide)
   ·exact⟨n.bK.toNat,by omega,by omega,by omega⟩
   ·rw[ho]at q;exact absurd q.1 (by decide)
   ·rw[ho]at q;exact absurd q.1 (by decide)
  have wQ:=h.kl;have jz:=h.gl;have hd:Int.tdiv (gs.length:Int) 3=E.K:=by rw[jz,show((3*E.K:Nat):Int)=3*(E.K:Int)from by omega];exact D5 _ (by decide)
  have hg9:gs.length<=900:=by omega
  have jl:G.mu b:=Or.inl (by rw[hb];simp);clear aM hF;have Ot:Hid (gs.length=3*E.K):=jz;clear jz;go_in;go_wp2_with fail;refine HL.mono ?_;rintro e w1 ⟨G1,eC,iM,iO,v,rfl,hv⟩;obtain⟨lE,jo,mE,mN,rj,vU,nf,hR,a0,a5,a6,af,an,jO,qi,ki⟩:=lj.after h.aV hb hn (by rw[hl];simp) eC iM iO hv;rw[nf]at hR⊢;obtain⟨z0,rfl,Kk⟩:=aeH h hB hn ho hl hR;rw[ho]at an;have n0:w1.cell? ⟨lE,0,none⟩=some (.string ⟨#[103,114,111,117,112]⟩):=an;have l0:w1.cell? ⟨jo,0,none⟩=some z0:=ki 0 (by simp);obtain⟨zb,TE,xS,P1,wI⟩:=hR.node
  have n5:w1.cell? ⟨lE,5,none⟩=some (.int .i64 m):=by
   have:=wI.bK;rw[ud,ahh (by exact jO)]at this;exact this
  have vf:=h.later hR.aV hR.ext hR.kept (fun j hj=>by subst hj;exact jl);have Kj:Hid (∀w2,I aq (w1.setCell ⟨b,6,none⟩ (.slice (some ⟨jo,0,none⟩) 1 mE)) w2->Calls prog 21 #[.pointer (some ⟨E.xb,0,none⟩),.int .i64 i] w2 fun e w'=>e=.returned (.int .i64 (E.x.eX i))/\w'=w2):=fun w2 hk=>TJ (hR.aV.kept hk).tx i
  have jz:gs.length=3*E.K:=Ot.out;have I3:E.K*2+m-1<gs.length:=by omega
  have Fk:Hid (∀w2,I aq (w1.setCell ⟨b,6,none⟩ (.slice (some ⟨jo,0,none⟩) 1 mE)) w2->Calls prog 64 #[.slice ag gs.length cg,.int .i64 (IntKind.i64.wrap (IntKind.i64.wrap (IntKind.i64.wrap (IntKind.i64.wrap (E.K:Int)*2)+(m:Int))-1)),.int .i64 (E.x.eX i)] w2 fun e w'=>∃gi fV,e=.returned (.slice (some ⟨gi,0,none⟩) gs.length fV)/\gs.length<=fV/\w2.heap.size<=gi/\fL w' (some ⟨gi,0,none⟩) gi (qm E.x gs n.bK i)/\I aq w2 w'):=fun w2 hk=>by
   rw[show IntKind.i64.wrap (IntKind.i64.wrap (IntKind.i64.wrap (IntKind.i64.wrap (E.K:Int)*2)+(m:Int))-1)=((E.K*2+m-1:Nat):Int)from by
    rw[Dr (E.K:Int) (by omega) (by omega),Dr ((E.K:Int)*2) (by omega) (by omega),Dr ((E.K:Int)*2+m) (by omega) (by omega),Dr _ (by omega) (by omega)];omega]
   have e:qm E.x gs n.bK i=gs.set (E.K*2+m-1) (E.x.eX i):=by
    unfold qm;rw[ud,Cj,show gs.length/3*2+m-1=E.K*2+m-1 from by omega]
   rw[e];exact Rs (vf.rg.kept hk (fun _ q=>q)) (E.K*2+m-1) (E.x.eX i) I3 (by omega) h.gc
  have HI:Hid (du w1 G1 E):=eC;obtain⟨AU,dq⟩:=hR.ae;have jj:b<(w1.setCell ⟨b,6,none⟩ (.slice (some ⟨jo,0,none⟩) 1 mE)).heap.size:=dq.lt;have I9:jo<(w1.setCell ⟨b,6,none⟩ (.slice (some ⟨jo,0,none⟩) 1 mE)).heap.size:=hR.laid.lt;have T6:(w1.setCell ⟨b,6,none⟩ (.slice (some ⟨jo,0,none⟩) 1 mE)).cell? ⟨b,6,none⟩=some (.slice (some ⟨jo,0,none⟩) 1 mE):=dq.cell 6;have WQ:(w1.setCell ⟨b,6,none⟩ (.slice (some ⟨jo,0,none⟩) 1 mE)).cell? ⟨jo,0,none⟩=some z0:=hR.laid.cell 0 (by simp);have SK:Hid (∀w3 (rz:Option Addr) (gi rH:Nat),I aq (w1.setCell ⟨b,6,none⟩ (.slice (some ⟨jo,0,none⟩) 1 mE)) w3->fL w3 rz gi (qm E.x gs n.bK i)->gs.length<=rH->¬G1.mu gi->Calls prog 20 #[.pointer (some ⟨E.xb,0,none⟩),z0,.int .i64 i,.slice rz gs.length rH,.slice at_ ts.length ct] w3 (dV (wS i (c::S) ts) w G E (c::S) i gs ts)):=Kk;clear hR ki an hv nf HL wI vf jz Kk dq bC iX h hB eC;go_wp2_with fail;go_region_with (first|(go_at_call 21;refine(Kj.out _ (by first|exact I.refl _ _|exact(I.refl _ _).drew)).mono ?_;rintro e w2 ⟨rfl,rfl⟩)|(go_at_call 64;refine(Fk.out _ (by first|exact I.refl _ _|exact(I.refl _ _).drew)).mono ?_;rintro e w3 ⟨sM,FM,rfl,wM,py,kC,aG⟩;have zN:I aq (w1.setCell ⟨b,6,none⟩ (.slice (some ⟨jo,0,none⟩) 1 mE)) w3:=(by first|exact aG|exact(I.refl aq (w1.setCell ⟨b,6,none⟩ (.slice (some ⟨jo,0,none⟩) 1 mE))).drew.trans aG);have acg:w1.heap.size<=sM:=(by have:=py;simp at this;omega)))
  all_goals
   have d6:w3.cell? ⟨b,6,none⟩=some (.slice (some ⟨jo,0,none⟩) 1 mE):=by rw[zN.cell (p:=⟨b,6,none⟩) jj (fun q=>q)];exact T6
   have m0:w3.cell? ⟨jo,0,none⟩=some z0:=by rw[zN.cell (p:=⟨jo,0,none⟩) I9 (fun q=>q)];exact WQ
   have HC:=SK.out w3 (some ⟨sM,0,none⟩) sM FM zN kC wM (fun q=>by have:=HI.out.lt sM q;omega);clear kC;go_wp2_with fail;refine HC.mono ?_;rintro e w4 ⟨G4,r,q1,q2,q3,q4,q5⟩
   cases r with
   |none=>
    obtain rfl:=q5;go_wp2_with fail;go_ret3;exact⟨G4,none,q1,q2,q3,q4,rfl⟩
   |some p=>
    obtain⟨eP,mV,lP,rfl,r2,r3,r4,r5,r6⟩:=q5;go_wp2_with fail;go_ret3;exact⟨G4,some p,q1,q2,q3,q4,eP,mV,lP,by rw[r3];rfl,r2,r3,r4,r5,r6⟩
 ·rw[hn]at q1
  cases q1;rw[lZ]at aM
  exact aoK h hB hn ho hl (lj.Qa h.aV hb hn aM q3)
structure Hx(w2:World)(G2:GH)(E:EG)(b:Nat)(c:CI)(S:List CI)(i:Nat)(gs:List Int)(ts:List Nat)(n:RT)(j:Nat)(G1:GH)(wr:World):Prop where
 aV:du wr G1 E
 ext:j0 w2 G2 G1 i (wS i (c::S) ts)
 ks:KS G2 w2 wr
 no:∀Z∈ (cF n c S).take j,cV E.x Z i gs ts none
 le:j<=n.aJ.length
theorem aaz(h:ee w G E (c::S) i gs ts (.pointer (some ⟨b,0,none⟩)) ag gb cg at_ tb ct)(hB:BlE E i (wS i (c::S) ts))(hn:c.n=some n)(ho:n.op=iI)(hR:lj w w2 G G2 E b c S n nb lb lc vm zs)(hI:Hx w2 G2 E b c S i gs ts n j G1 wr)(hj:j<n.aJ.length):
 ∃(JA Nd:Nat) (z:Value),wr.cell? ⟨b,6,none⟩=some (.slice (some ⟨JA,0,none⟩) n.aJ.length Nd)/\wr.cell? ⟨JA,j,none⟩=some z/\
  Calls prog 20 #[.pointer (some ⟨E.xb,0,none⟩),z,.int .i64 i,.slice ag gs.length cg,.slice at_ ts.length ct] wr (fun e w'=>∃G',du w' G' E/\j0 w2 G2 G' i (wS i (c::S) ts)/\KS G2 w2 w'/\((e=.returned (.tuple #[.int .i64 0,.slice none 0 0,.bool false])/\Hx w2 G2 E b c S i gs ts n (j+1) G' w')\/∃(q:Nat) (ao:Option Addr) (cap:Nat),e=.returned (.tuple #[.int .i64 q,.slice ao gs.length cap,.bool true])/\dV (wS i (c::S) ts) w G E (c::S) i gs ts (.returned (.tuple #[.int .i64 q,.slice ao gs.length cap,.bool true])) w')):=by
 have DM:n.op≠ec:=by rw[ho];decide
 have fp:=Ha (c:=c) (S:=S) ho;have jl:G.mu b:=Or.inl (by rw[h.head];simp);have ji:b<w.heap.size:=h.aV.lt b jl;have vf:=h.later hR.aV hR.ext hR.kept (fun j hj=>by subst hj;exact jl);have hA:=vf.M_ hI.aV hI.ext.jt hI.ks.kept (fun _ q=>q);have hb:=hA.head;obtain⟨mN,rj,AU,lE,zb,TE,xS,P1,_,_,nP,wI⟩:=hI.aV.open hb hn;have c6:wr.cell? ⟨b,6,none⟩=some rj:=nP.ae.cell 6
 have aF:wr.cell? ⟨b,6,none⟩≠some (.slice none 0 0):=hI.ks.stay b (by rw[vf.head];simp) (by
  obtain⟨dQ,dq⟩:=hR.ae;rw[show w2.cell? ⟨b,6,none⟩=some (.slice (some ⟨lb,0,none⟩) zs.length lc)from dq.cell 6];simp)
 rcases nP.next with q|⟨n',JA,Nd,zs',q1,q2,hL⟩
 ·rw[q]at c6;exact absurd c6 aF
 ·rw[hn]at q1
  cases q1;have dA:zs'.length=n.aJ.length:=by rw[hL.len,fp,D9]
  have hjz:j<zs'.length:=by omega
  have rQ:j<(cF n c S).length:=by rw[fp,D9];exact hj
  have hZ:=hA.laid hn DM hL j hjz rQ hA.rg hA.gl hA.gc hA.gm;have DF:=WH (S:=S) (i:=i) (ts:=ts) hn (h.ok c Aq) DM _ (Ay rQ);refine⟨JA,Nd,zs'[j],by rw[c6,q2,dA],hL.cell j hjz,(hB wr G1 _ i gs ts _ ag gb cg at_ tb ct hZ (Or.inr ⟨rfl,DF⟩)).mono ?_⟩;rintro e w4 ⟨G4,r,r1,r2,r3,r4,r5⟩;have hx:=hI.ext.trans (r3.call (Or.inr ⟨rfl,DF⟩)) hI.ks.kept.size hR.aV.lt;have wT:KS G2 w2 w4:=⟨hI.ks.kept.bY r4.kept (fun j hj hq=>(hI.ext.jt.mu hj).1 hq),hI.ks.stay.trans hR.aV.lt hI.ext.jt r4.stay⟩;refine⟨G4,r2,hx,wT,?_⟩
  cases r with
  |none=>
   refine Or.inl ⟨r5,r2,hx,wT,fun Z IS=>?_,by omega⟩;rw[Cb rQ,A2]at IS;rcases IS with IS|IS
   ·exact hI.no Z IS
   ·rw[Bj.1 IS];exact r1
  |some p=>
   have mZ:cV E.x (c::S) i gs ts (some p):=by
    refine cV.Rb hn (Or.inr (Or.inl ho)) ?_;rw[if_neg (by rw[ho];decide)]
    have e:cF n c S=(cF n c S).take j++(cF n c S)[j]::(cF n c S).drop (j+1):=by
     rw[List.getElem_cons_drop,Ek]
    rw[e];exact lK.skip hI.no (Or.inl ⟨p,r1,rfl⟩)
   have hF:dV (wS i (c::S) ts) w2 G2 E (c::S) i gs ts e w4:=⟨G4,some p,mZ,r2,hx,wT,r5⟩;have LJ:=hF.later (S:=c::S) (i:=i) (gs:=gs) (ts:=ts) h.aV.lt hR.ext hR.kept (fun j hj=>by subst hj;exact jl) hR.stay (Or.inr ⟨rfl,Aa _⟩) rfl (fun _ hr=>hr);obtain⟨ao,gb,cap,rfl,_,e3,_⟩:=r5;rw[e3]at LJ⊢;exact Or.inr ⟨p.1,ao,cap,rfl,LJ⟩
theorem aay(h:ee w G E (c::S) i gs ts (.pointer (some ⟨b,0,none⟩)) ag gb cg at_ tb ct)(hn:c.n=some n)(ho:n.op=iI)(hR:lj w w2 G G2 E b c S n nb lb lc vm zs)(hI:Hx w2 G2 E b c S i gs ts n j G1 wr)(hj:¬j<n.aJ.length):
 dV (wS i (c::S) ts) w G E (c::S) i gs ts (.returned (.tuple #[.int .i64 0,.slice none 0 0,.bool false])) wr:=by
 have fp:=Ha (c:=c) (S:=S) ho;have jl:G.mu b:=Or.inl (by rw[h.head];simp)
 have mZ:cV E.x (c::S) i gs ts none:=by
  refine cV.Rb hn (Or.inr (Or.inl ho)) ?_;rw[if_neg (by rw[ho];decide)]
  have e:cF n c S=(cF n c S).take j++[]:=by
   rw[C8,Cp (by rw[fp,D9];omega)]
  rw[e];exact lK.skip hI.no rfl
 have hF:dV (wS i (c::S) ts) w2 G2 E (c::S) i gs ts (.returned (.tuple #[.int .i64 0,.slice none 0 0,.bool false])) wr:=⟨G1,none,mZ,hI.aV,hI.ext,hI.ks,rfl⟩;exact hF.later h.aV.lt hR.ext hR.kept (fun j hj=>by subst hj;exact jl) hR.stay (Or.inr ⟨rfl,Aa _⟩) rfl (fun _ hr=>hr)
theorem aax(hR:lj w w2 G G2 E b c S n nb lb lc vm zs)(hI:Hx w2 G2 E b c S i gs ts n j G1 wr):
 ∃ao cap,wr.cell? ⟨nb,4,none⟩=some (.slice ao n.aJ.length cap):=by
 obtain⟨T,dM⟩:=hR.nd;obtain⟨ao,bk,cap,P,hF⟩:=(dM.kept hI.ks.kept (fun i hi q=>hR.aV.um i hi q)).parts;exact⟨ao,cap,hF.aJ⟩
theorem aoF(h:ee w G E (c::S) i gs ts (.pointer (some ⟨b,0,none⟩)) ag gb cg at_ tb ct)(hB:BlE E i (wS i (c::S) ts))(hn:c.n=some n)(ho:n.op=iI)(hR:lj w w G G E b c S n nb lb lc vm zs):
 Calls prog 38 #[.pointer (some ⟨E.xb,0,none⟩),.pointer (some ⟨b,0,none⟩),.int .i64 i,.slice ag gs.length cg,.slice at_ ts.length ct] w (dV (wS i (c::S) ts) w G E (c::S) i gs ts):=by
 obtain⟨dQ,dq⟩:=hR.ae;obtain⟨ao,bk,cap,P,hF⟩:=hR.node;have c0:w.cell? ⟨b,0,none⟩=some (.pointer (some ⟨nb,0,none⟩)):=dq.cell 0;have hzp:=hR.laid.pos;have c6:w.cell? ⟨b,6,none⟩=some (.slice (some ⟨lb,0,none⟩) zs.length lc):=dq.cell 6;have n0:w.cell? ⟨nb,0,none⟩=some (.string ⟨#[97,108,116]⟩):=by have:=hF.op;rw[ho]at this;exact this
 have cE:¬(zs.length:Int)=0:=by omega
 have hzb:((zs.length:Int)==0)=false:=by simpa using cE
 go_in
 have HA:Hid (ee w G E (c::S) i gs ts (.pointer (some ⟨b,0,none⟩)) ag gb cg at_ tb ct):=h;have Ki:Hid (BlE E i (wS i (c::S) ts)):=hB;have pU:Hid (lj w w G G E b c S n nb lb lc vm zs):=hR;have HN:Hid (c.n=some n):=hn;have HO:Hid (n.op=iI):=ho;have zp:n.aJ.length<=400:=by obtain⟨_,_,_,_,hF⟩:=hR.node;exact hF.cB
 clear hR hF dq h hB hn ho;go_wp2_with fail;go_loopg [16] n.aJ.length (fun kk v wr=>∃(j:Nat) (G1:GH),v=.int .i64 j/\kk=n.aJ.length-j/\Hx (w) G E b c S i gs ts n j G1 wr)
 case atStart=>exact⟨0,G,rfl,rfl,pU.out.aV,(Ext.refl _ _).m pU.out.aV.lt,⟨I.refl _ _,fun _ _ q=>q⟩,fun Z hZ=>by simp at hZ,Aw _⟩
 case round=>
  obtain⟨j,G1,rfl,rfl,hI⟩:=hrel;have rQ:=hI.le;obtain⟨eP,lP,k4⟩:=aax pU.out hI;by_cases ar:j<n.aJ.length
  ·have hJ:(j:Int)<(n.aJ.length:Int):=(by omega);obtain⟨JA,Nd,z,d6,dz,HC⟩:=aaz HA.out Ki.out HN.out HO.out pU.out hI ar;clear hI;go_wp2_with fail;refine HC.mono ?_;rintro e w4 ⟨G4,i4,x4,s4,⟨rfl,VD⟩|⟨q,fE,ahg,rfl,hF⟩⟩
   ·go_wp2_with fail
    go_roundg (n.aJ.length-(j+1))
    case measure=>omega
    case rel=>exact⟨j+1,G4,by go_num,rfl,VD⟩
   ·go_wp2_with fail
    go_ret3
    exact hF
  ·have hJ:¬(j:Int)<(n.aJ.length:Int):=(by omega);have hF:=aay HA.out HN.out HO.out pU.out hI ar;go_wp2_with fail;go_ret3;exact hF
theorem aoE(mX:BM E)(h:ee w G E (c::S) i gs ts (.pointer (some ⟨b,0,none⟩)) ag gb cg at_ tb ct)(hB:BlE E i (wS i (c::S) ts))(hn:c.n=some n)(ho:n.op=iI):
 Calls prog 38 #[.pointer (some ⟨E.xb,0,none⟩),.pointer (some ⟨b,0,none⟩),.int .i64 i,.slice ag gs.length cg,.slice at_ ts.length ct] w (dV (wS i (c::S) ts) w G E (c::S) i gs ts):=by
 have hb:=h.head;obtain⟨vm,vt,dQ,nb,ao,bk,cap,P,bC,iX,aM,hF⟩:=h.aV.open hb hn
 have ajn:n.aJ≠ []:=by
  rcases RT.z8 (h.JE hn)with q|q|q|q|q|q|q
  ·rw[ho]at q;exact absurd q (by decide)
  ·rw[ho]at q;exact absurd q (by decide)
  ·rw[ho]at q;exact absurd q (by decide)
  ·exact q.2
  ·rw[ho]at q;exact absurd q.1 (by decide)
  ·rw[ho]at q;exact absurd q.1 (by decide)
  ·rw[ho]at q;exact absurd q.1 (by decide)
 rcases aM.next with lZ|⟨n',lb,lc,zs,q1,lZ,q3⟩
 ·have c0:w.cell? ⟨b,0,none⟩=some (.pointer (some ⟨nb,0,none⟩)):=aM.ae.cell 0;have c6:w.cell? ⟨b,6,none⟩=some vt:=aM.ae.cell 6;rw[lZ]at c6;have HL:=mX w G b c S n h.aV hb hn;clear aM hF;go_in;go_wp2_with fail;refine HL.mono ?_;rintro e w1 ⟨G1,eC,iM,iO,v,rfl,hv⟩;obtain⟨lE,jo,mE,mN,rj,vU,nf,hR,a0,a5,a6,af,an,jO,qi,ki⟩:=lj.after h.aV hb hn (by rw[Ha ho];simpa using ajn) eC iM iO hv;rw[nf]at hR⊢;rw[ho]at an;have n0:w1.cell? ⟨lE,0,none⟩=some (.string ⟨#[97,108,116]⟩):=an;have HA:Hid (ee w G E (c::S) i gs ts (.pointer (some ⟨b,0,none⟩)) ag gb cg at_ tb ct):=h;have Ki:Hid (BlE E i (wS i (c::S) ts)):=hB;have pU:Hid (lj w (w1.setCell ⟨b,6,none⟩ (.slice (some ⟨jo,0,none⟩) vU.length mE)) G G1 E b c S n lE jo mE mN vU):=hR;have HN:Hid (c.n=some n):=hn;have HO:Hid (n.op=iI):=ho;have zp:n.aJ.length<=400:=by obtain⟨_,_,_,_,hF⟩:=hR.node;exact hF.cB
  clear hR ki an hv nf HL h hB hn ho eC bC iX;go_wp2_with fail;go_loopg [16] n.aJ.length (fun kk v wr=>∃(j:Nat) (YD:GH),v=.int .i64 j/\kk=n.aJ.length-j/\Hx ((w1.setCell ⟨b,6,none⟩ (.slice (some ⟨jo,0,none⟩) vU.length mE))) G1 E b c S i gs ts n j YD wr)
  case atStart=>exact⟨0,G1,rfl,rfl,pU.out.aV,(Ext.refl _ _).m pU.out.aV.lt,⟨I.refl _ _,fun _ _ q=>q⟩,fun Z hZ=>by simp at hZ,Aw _⟩
  case round=>
   obtain⟨j,YD,rfl,rfl,hI⟩:=hrel;have rQ:=hI.le;obtain⟨eP,lP,k4⟩:=aax pU.out hI;by_cases ar:j<n.aJ.length
   ·have hJ:(j:Int)<(n.aJ.length:Int):=(by omega);obtain⟨JA,Nd,z,d6,dz,HC⟩:=aaz HA.out Ki.out HN.out HO.out pU.out hI ar;clear hI;go_wp2_with fail;refine HC.mono ?_;rintro e w4 ⟨G4,i4,x4,s4,⟨rfl,VD⟩|⟨q,fE,ahg,rfl,hF⟩⟩
    ·go_wp2_with fail
     go_roundg (n.aJ.length-(j+1))
     case measure=>omega
     case rel=>exact⟨j+1,G4,by go_num,rfl,VD⟩
    ·go_wp2_with fail
     go_ret3
     exact hF
   ·have hJ:¬(j:Int)<(n.aJ.length:Int):=(by omega);have hF:=aay HA.out HN.out HO.out pU.out hI ar;go_wp2_with fail;go_ret3;exact hF
 ·rw[hn]at q1
  cases q1;rw[lZ]at aM
  exact aoF h hB hn ho (lj.Qa h.aV hb hn aM q3)
theorem fL.pfx{hs:List Int}(h:fL w ao gb (gs++hs)):fL w ao gb gs where
 ig aF:=h.ig (by simp[aF])
 cell i hi:=by
  have:=h.cell i (by rw[Ao];omega);rw[A6 hi]at this;exact this
 ty aF:=h.ty (by simp[aF])
theorem vT(t:Nat)(ts:List Nat):jW (t::ts)=jW ts++[(t:Int)]:=by
 unfold jW;simp
theorem ee.aeE(h:ee w G E (c::S) i gs ts vc ag gb cg at_ tb ct)(hm:gQ G vm S)(fP:to0=if c.bR then ts.tail else ts):ee w G E S i gs to0 vm ag gb cg at_ tb ct:=by
 have hl:=h.qu
 cases hc:c.bR
 ·simp only[hc,Ag,if_false]at fP;subst fP
  exact{h with
   st:=hm
   ok:=fun d hd=>h.ok d (Ar _ hd)
   deep:=h.deep.2
   qu:=by simp only[tc,hc,Ag,if_false]at hl;omega}
 ·simp only[hc,if_true]at fP;simp only[tc,hc,if_true]at hl
  cases ts with
  |nil=>simp only[A8]at hl;omega
  |cons t ts=>
   simp only[List.tail_cons]at fP;subst fP;simp only[A1]at hl
   exact{h with
    st:=hm
    ok:=fun d hd=>h.ok d (Ar _ hd)
    deep:=h.deep.2
    sB:=h.sB.tail
    qu:=by omega
    vS:=by have:=h.vS;simp only[A1]at this;omega
    rt:=by have:=h.rt;rw[vT]at this;exact this.pfx
    tm:=fun _=>h.tm (by simp)
    pQ:=by have:=h.pQ;simp only[A1]at this;omega}
theorem ee.aki(h:ee w G E (c::S) i gs ts vc ag gb cg at_ tb ct)(hn:c.n=some n)(ho:n.op=ec)(hl:cF n c S=[Z])(hz:gQ G z Z)(fP:to0=if c.bR then ts.tail else ts)(cP:eK=if c.bB<=0/\c.aY<0 then i::to0 else to0)(hc:0<c.bB\/c.aY≠0)
 (rt:fL w at' q9 (jW eK))(tm:eK≠ []->¬G.mu q9)(pQ:eK.length<=sK)(tz:at'=none->sK=0):ee w G E Z i gs eK z ag gb cg at' q9 sK:=by
 have hm:Z∈cF n c S:=by rw[hl];simp
 have h1:=zT hn (h.ok c Aq) (fun d hd=>h.ok d (Ar _ hd)) h.deep _ hm;have h2:=ac8 (c:=c) (S:=S) (h.JE hn) _ hm;have h3:=h.qu
 have zF:to0.length=tc S:=by
  cases e:c.bR
  ·simp only[tc,e,Ag,if_false]at h3 fP;subst fP;omega
  ·simp only[tc,e,if_true]at h3 fP;subst fP;simp;omega
 have abY:eK.length=tc Z:=by
  rw[h2,cP];by_cases q:c.bB<=0/\c.aY<0
  ·rw[if_pos q,if_pos ⟨ho,q.1,by omega⟩];simp[zF];omega
  ·rw[if_neg q,if_neg (fun q'=>q ⟨q'.2.1,by omega⟩)];omega
 have acq:oo i to0:=by
  rw[fP];split
  ·exact h.sB.tail
  ·exact h.sB
 refine{h with
  st:=hz
  ok:=h1.1
  deep:=h1.2
  sB:=?_
  qu:=abY
  vS:=?_
  rt:=rt
  tm:=tm
  pQ:=pQ
  tz:=tz}
 ·rw[cP];split
  ·exact acq.push
  ·exact acq
 ·rw[yy ho]at hl
  obtain⟨k,hk,rfl⟩:∃k,n.aJ.take 1=[k]/\Z=bo k::dN n c::S:=by
   cases gH:n.aJ.take 1 with
   |nil=>rw[gH]at hl;simp at hl
   |cons a l=>
    rw[gH]at hl;simp only[Bt,List.cons.injEq,List.map_eq_nil_iff]at hl;exact⟨a,by rw[hl.2],hl.1.symm⟩
  have hd:=h1.2.1;rw[abY]
  have e:tc (bo k::dN n c::S)=tc (dN n c::S):=by
   show(if(bo k).bR then 1 else 0)+tc (dN n c::S)=_
   simp[bo]
  rw[e];omega
structure OT(wr:World)(G1:GH)(E:EG)(b:Nat)(c:CI)(S Z:List CI)(n:RT)(nb lb lc:Nat)(vm z:Value):Prop where
 c0:wr.cell? ⟨b,0,none⟩=some (.pointer (some ⟨nb,0,none⟩))
 c1:wr.cell? ⟨b,1,none⟩=some (.int .i64 c.bB)
 c2:wr.cell? ⟨b,2,none⟩=some (.int .i64 c.aY)
 c4:wr.cell? ⟨b,4,none⟩=some (.bool c.bR)
 c5:wr.cell? ⟨b,5,none⟩=some vm
 c6:wr.cell? ⟨b,6,none⟩=some (.slice (some ⟨lb,0,none⟩) 1 lc)
 l0:wr.cell? ⟨lb,0,none⟩=some z
 n8:wr.cell? ⟨nb,8,none⟩=some (.bool n.lz)
 more:gQ G1 vm S
 next:gQ G1 z Z
 gR:b<wr.heap.size
 llt:lb<wr.heap.size
theorem OT.of(hI:du wr G1 E)(hb:G1.T b=some (c::S))(hn:c.n=some n)(hl:cF n c S=[Z])(aF:wr.cell? ⟨b,6,none⟩≠some (.slice none 0 0)):∃nb lb lc vm z,OT wr G1 E b c S Z n nb lb lc vm z:=by
 obtain⟨vm,vt,dQ,nb,ao,bk,cap,P,_,_,aM,hF⟩:=hI.open hb hn;have c6:wr.cell? ⟨b,6,none⟩=some vt:=aM.ae.cell 6;rcases aM.next with q|⟨n',lb,lc,zs,q1,q2,hL⟩
 ·rw[q]at c6;exact absurd c6 aF
 ·rw[hn]at q1
  cases q1;have dA:=hL.len
  rw[hl]at dA;obtain⟨z,rfl⟩:=Db.1 dA;refine⟨nb,lb,lc,vm,z,aM.ae.cell 0,aM.ae.cell 1,aM.ae.cell 2,aM.ae.cell 4,aM.ae.cell 5,by rw[c6,q2];rfl,hL.cell 0 (by simp),hF.lz,aM.more,?_,aM.ae.lt,hL.lt⟩;have:=hL.st 0 (by simp) (by rw[hl];simp);simp only[hl]at this;exact this
theorem dV.tA{M:Nat}{e:Ending}(h:dV M w G E S i gs ts e w'):e=.returned (.tuple #[.int .i64 0,.slice none 0 0,.bool false])\/∃(q:Nat) (ao:Option Addr) (cap:Nat),e=.returned (.tuple #[.int .i64 q,.slice ao gs.length cap,.bool true]):=by
 obtain⟨G',r,_,_,_,_,h5⟩:=h
 cases r with
 |none=>exact Or.inl h5
 |some p=>
  obtain⟨ao,gb,cap,rfl,_,h3,_⟩:=h5;exact Or.inr ⟨p.1,ao,cap,by rw[h3]⟩
theorem KS.quiet(ar:∀k,G.mu k->k<w.heap.size)(k:I aq w w'):KS G w w':=⟨k.mono (fun _ q=>q.elim),mh.quiet ar k⟩
theorem KS.trans(ar:∀k,G.mu k->k<w.heap.size)(he:ef w G G1)(h1:KS G w w1)(h2:KS G1 w1 w'):KS G w w':=
 ⟨h1.kept.bY h2.kept (fun j hj hq=>(he.mu hj).1 hq),h1.stay.trans ar he h2.stay⟩
def ZJ(w:World)(G:GH)(E:EG)(c:CI)(S:List CI)(i:Nat)(gs:List Int)(ts:List Nat)(K:World->Prop)(e:Ending)(w4:World):Prop:=
 (∃(q:Nat) (ao:Option Addr) (cap:Nat),e=.returned (.tuple #[.int .i64 q,.slice ao gs.length cap,.bool true])/\dV (wS i (c::S) ts) w G E (c::S) i gs ts (.returned (.tuple #[.int .i64 q,.slice ao gs.length cap,.bool true])) w4)\/(e=.returned (.tuple #[.int .i64 0,.slice none 0 0,.bool false])/\K w4)
structure ju(w:World)(G:GH)(E:EG)(c:CI)(S Z:List CI)(i:Nat)(gs:List Int)(ts to0 eK:List Nat)(b:Nat)(ag:Option Addr)(gb cg:Nat)(at_:Option Addr)(tb ct:Nat)(n:RT):Prop where
 h:ee w G E (c::S) i gs ts (.pointer (some ⟨b,0,none⟩)) ag gb cg at_ tb ct
 hB:BlE E i (wS i (c::S) ts)
 hn:c.n=some n
 ho:n.op=ec
 hl:cF n c S=[Z]
 hh:¬(c.bR=true/\ts.head?=some i)
 aF:w.cell? ⟨b,6,none⟩≠some (.slice none 0 0)
 fP:to0=if c.bR then ts.tail else ts
 cP:eK=if c.bB<=0/\c.aY<0 then i::to0 else to0
theorem ju.Wp(T:ju w G E c S Z i gs ts to0 eK b ag gb cg at_ tb ct n):eK=ML c i ts:=by
 unfold ML;rw[T.cP,T.fP]
theorem ju.at(T:ju w G E c S Z i gs ts to0 eK b ag gb cg at_ tb ct n)(hI:du wr G1 E)(hx:ef w G G1)(hk:KS G w wr):∃nb lb lc vm z,OT wr G1 E b c S Z n nb lb lc vm z:=by
 have hA:=T.h.M_ hI hx hk.kept (fun _ q=>q);exact OT.of hI hA.head T.hn T.hl (hk.stay b (by rw[T.h.head];simp) T.aF)
theorem ju.WS(T:ju w G E c S Z i gs ts to0 eK b ag gb cg at_ tb ct n)(hI:du wr G1 E)(hx:ef w G G1)(hk:KS G w wr)(hm:gQ G1 vm S):
 Calls prog 20 #[.pointer (some ⟨E.xb,0,none⟩),vm,.int .i64 i,.slice ag gs.length cg,.slice at_ to0.length ct] wr (dV (wS i S to0+1) wr G1 E S i gs to0):=
 T.hB wr G1 S i gs to0 vm ag gb cg at_ tb ct ((T.h.M_ hI hx hk.kept (fun _ q=>q)).aeE hm T.fP) (Or.inr ⟨rfl,by rw[T.fP];exact Sn⟩)
theorem ju.Wn(T:ju w G E c S Z i gs ts to0 eK b ag gb cg at_ tb ct n)(hI:du wr G1 E)(hx:ef w G G1)(hk:KS G w wr)(hz:gQ G1 z Z)(hc:0<c.bB\/c.aY≠0)(rt:fL wr at' q9 (jW eK))(tm:eK≠ []->¬G1.mu q9)(pQ:eK.length<=sK)(tz:at'=none->sK=0):
 Calls prog 20 #[.pointer (some ⟨E.xb,0,none⟩),z,.int .i64 i,.slice ag gs.length cg,.slice at' eK.length sK] wr (dV (wS i Z eK+1) wr G1 E Z i gs eK):=
 T.hB wr G1 Z i gs eK z ag gb cg at' q9 sK ((T.h.M_ hI hx hk.kept (fun _ q=>q)).aki T.hn T.ho T.hl hz T.fP T.cP hc rt tm pQ tz)
  (Or.inr ⟨rfl,by rw[T.cP,T.fP];exact ac7 T.hn (T.h.ok c Aq) T.ho T.hh hc Z (by rw[T.hl];simp)⟩)
theorem ju.Rg(T:ju w G E c S Z i gs ts to0 eK b ag gb cg at_ tb ct n):wS i S to0<wS i (c::S) ts:=by
 rw[T.fP];exact Sn
theorem ju.Rf(T:ju w G E c S Z i gs ts to0 eK b ag gb cg at_ tb ct n)(hc:0<c.bB\/c.aY≠0):wS i Z eK<wS i (c::S) ts:=by
 rw[T.cP,T.fP];exact ac7 T.hn (T.h.ok c Aq) T.ho T.hh hc Z (by rw[T.hl];simp)
theorem ju.bB(T:ju w G E c S Z i gs ts to0 eK b ag gb cg at_ tb ct n)(hz:gQ G z Z)(hl:0<c.bB):
 Calls prog 20 #[.pointer (some ⟨E.xb,0,none⟩),z,.int .i64 i,.slice ag gs.length cg,.slice at_ to0.length ct] w (dV (wS i (c::S) ts) w G E (c::S) i gs ts):=by
 have DB:eK=to0:=by rw[T.cP,if_neg (by omega)]
 have hP:=T.h.aeE (vm:=.pointer none) (S:=S) (to0:=to0);have K0:KS G w w:=⟨I.refl _ _,fun _ _ q=>q⟩
 have VW:fL w at_ tb (jW to0)/\(to0≠ []->¬G.mu tb)/\to0.length<=ct:=by
  rw[T.fP];split
  ·cases ts with
   |nil=>exact⟨T.h.rt,T.h.tm,T.h.pQ⟩
   |cons t l=>
    refine⟨?_,fun _=>T.h.tm (by simp),?_⟩
    ·have:=T.h.rt;rw[vT]at this;exact this.pfx
    ·have:=T.h.pQ;simp only[A1,List.tail_cons]at this⊢;omega
  ·exact⟨T.h.rt,T.h.tm,T.h.pQ⟩
 have HC:=T.Wn (at':=at_) (q9:=tb) (sK:=ct) T.h.aV (ef.refl w G) K0 hz (Or.inl hl) (by rw[DB];exact VW.1) (by rw[DB];exact VW.2.1) (by rw[DB];exact VW.2.2) T.h.tz;rw[DB]at HC;refine HC.mono ?_;rintro e w' hF;refine hF.from T.h.aV.lt (j0.refl w G _ _) K0 (Or.inr ⟨rfl,by rw[<-DB];exact T.Rf (Or.inl hl)⟩) rfl (fun r hr=>?_)
 refine cV.bB T.hn T.ho T.hh hl ?_;rw[T.hl,<-T.fP];exact lK.one hr
theorem ju.Nu(T:ju w G E c S Z i gs ts to0 eK b ag gb cg at_ tb ct n)(hm:gQ G vm S)(hl:¬0<c.bB)(hz:c.aY=0):
 Calls prog 20 #[.pointer (some ⟨E.xb,0,none⟩),vm,.int .i64 i,.slice ag gs.length cg,.slice at_ to0.length ct] w (dV (wS i (c::S) ts) w G E (c::S) i gs ts):=by
 have K0:KS G w w:=⟨I.refl _ _,fun _ _ q=>q⟩;refine(T.WS T.h.aV (ef.refl w G) K0 hm).mono ?_;rintro e w' hF;refine hF.from T.h.aV.lt (j0.refl w G _ _) K0 (Or.inr ⟨rfl,T.Rg⟩) rfl (fun r hr=>?_)
 refine cV.Nu T.hn T.ho T.hh hl hz ?_;rw[<-T.fP];exact hr
theorem ju.Py(T:ju w G E c S Z i gs ts to0 eK b ag gb cg at_ tb ct n)(aQ:I aq w w3)(hz:gQ G z Z)(hl:¬0<c.bB)(hm:c.aY≠0)(iZ:n.lz=false)(rt:fL w3 at' q9 (jW eK))(tm:eK≠ []->¬G.mu q9)(pQ:eK.length<=sK)(tz:at'=none->sK=0):
 Calls prog 20 #[.pointer (some ⟨E.xb,0,none⟩),z,.int .i64 i,.slice ag gs.length cg,.slice at' eK.length sK] w3
  (ZJ w G E c S i gs ts fun w4=>∃vm,w4.cell? ⟨b,5,none⟩=some vm/\Calls prog 20 #[.pointer (some ⟨E.xb,0,none⟩),vm,.int .i64 i,.slice ag gs.length cg,.slice at_ to0.length ct] w4 (dV (wS i (c::S) ts) w G E (c::S) i gs ts)):=by
 have iN:=T.h.aV.kept aQ;have wJ:=KS.quiet T.h.aV.lt aQ;have Gf:=ef.refl w G;have LQ:j0 w G G i (wS i (c::S) ts):=j0.refl w G _ _;refine(T.Wn iN Gf wJ hz (Or.inr hm) rt tm pQ tz).mono ?_;rintro e w4 hF;have PG:=hF;rcases hF.tA with rfl|⟨q,ao,cap,rfl⟩
 ·obtain⟨G4,r,q1,q2,q3,q4,q5⟩:=hF;refine Or.inr ⟨rfl,?_⟩
  have hr:r=none:=by
   cases r with
   |none=>rfl
   |some p=>obtain⟨ao,gb,cap,e,_⟩:=q5;simp at e
  subst hr;have Gg:j0 w G G4 i (wS i (c::S) ts):=LQ.trans (q3.call (Or.inr ⟨rfl,T.Rf (Or.inr hm)⟩)) aQ.size T.h.aV.lt;have zp:=wJ.trans T.h.aV.lt Gf q4;obtain⟨nb,lb,lc,vm,z',hT⟩:=T.at q2 Gg.jt zp;refine⟨vm,hT.c5,(T.WS q2 Gg.jt zp hT.more).mono ?_⟩;rintro e w5 UR;refine UR.from T.h.aV.lt Gg zp (Or.inr ⟨rfl,T.Rg⟩) rfl (fun r hr=>?_)
  refine cV.aiK T.hn T.ho T.hh hl hm iZ ?_ (by rw[<-T.fP];exact hr);rw[T.hl,<-T.Wp];exact lK.one q1
 ·refine Or.inl ⟨q,ao,cap,rfl,?_⟩;obtain⟨G4,r,q1,q2,q3,q4,q5⟩:=hF
  cases r with
  |none=>simp[To]at q5
  |some p=>
   refine(show dV (wS i (c::S) ts) w G E (c::S) i gs ts _ w4 from⟨G4,some p,?_,q2,LQ.trans (q3.call (Or.inr ⟨rfl,T.Rf (Or.inr hm)⟩)) aQ.size T.h.aV.lt,wJ.trans T.h.aV.lt Gf q4,q5⟩);refine cV.aiJ T.hn T.ho T.hh hl hm iZ ?_;rw[T.hl,<-T.Wp];exact lK.one q1
theorem ju.lazy(T:ju w G E c S Z i gs ts to0 eK b ag gb cg at_ tb ct n)(aQ:I aq w w3)(eZ:gQ G vm S)(hl:¬0<c.bB)(hm:c.aY≠0)(iZ:n.lz=true)(rt:fL w3 at' q9 (jW eK))(tm:eK≠ []->¬G.mu q9)(pQ:eK.length<=sK)(tz:at'=none->sK=0):
 Calls prog 20 #[.pointer (some ⟨E.xb,0,none⟩),vm,.int .i64 i,.slice ag gs.length cg,.slice at_ to0.length ct] w3
  (ZJ w G E c S i gs ts fun w4=>∃lb lc z,w4.cell? ⟨b,6,none⟩=some (.slice (some ⟨lb,0,none⟩) 1 lc)/\w4.cell? ⟨lb,0,none⟩=some z/\Calls prog 20 #[.pointer (some ⟨E.xb,0,none⟩),z,.int .i64 i,.slice ag gs.length cg,.slice at' eK.length sK] w4 (dV (wS i (c::S) ts) w G E (c::S) i gs ts)):=by
 have iN:=T.h.aV.kept aQ;have wJ:=KS.quiet T.h.aV.lt aQ;have Gf:=ef.refl w G;have LQ:j0 w G G i (wS i (c::S) ts):=j0.refl w G _ _;refine(T.WS iN Gf wJ eZ).mono ?_;rintro e w4 hF;rcases hF.tA with rfl|⟨q,ao,cap,rfl⟩
 ·obtain⟨G4,r,q1,q2,q3,q4,q5⟩:=hF;refine Or.inr ⟨rfl,?_⟩
  have hr:r=none:=by
   cases r with
   |none=>rfl
   |some p=>obtain⟨ao,gb,cap,e,_⟩:=q5;simp at e
  subst hr;have Gg:j0 w G G4 i (wS i (c::S) ts):=LQ.trans (q3.call (Or.inr ⟨rfl,T.Rg⟩)) aQ.size T.h.aV.lt;have zp:=wJ.trans T.h.aV.lt Gf q4;obtain⟨nb,lb,lc,vm',z',hT⟩:=T.at q2 Gg.jt zp;have zF:eK≠ []->q9<w3.heap.size:=fun aF=>(rt.ig (by intro e;have:=uN eK;rw[e]at this;simp at this;exact aF (Az.1 this.symm))).2
  refine⟨lb,lc,z',hT.c6,hT.l0,(T.Wn q2 Gg.jt zp hT.next (Or.inr hm) (rt.kept q4.kept (fun aF q=>tm (by intro e;subst e;exact aF rfl) q)) (fun aF q=>tm aF ((q3.jt.mu (zF aF)).1 q)) pQ tz).mono ?_⟩;rintro e w5 UR;refine UR.from T.h.aV.lt Gg zp (Or.inr ⟨rfl,T.Rf (Or.inr hm)⟩) rfl (fun r hr=>?_)
  refine cV.akQ T.hn T.ho T.hh hl hm iZ (by rw[<-T.fP];exact q1) ?_;rw[T.hl,<-T.Wp];exact lK.one hr
 ·refine Or.inl ⟨q,ao,cap,rfl,?_⟩;obtain⟨G4,r,q1,q2,q3,q4,q5⟩:=hF
  cases r with
  |none=>simp[To]at q5
  |some p=>
   refine(show dV (wS i (c::S) ts) w G E (c::S) i gs ts _ w4 from⟨G4,some p,?_,q2,LQ.trans (q3.call (Or.inr ⟨rfl,T.Rg⟩)) aQ.size T.h.aV.lt,wJ.trans T.h.aV.lt Gf q4,q5⟩);refine cV.akP T.hn T.ho T.hh hl hm iZ ?_;rw[<-T.fP];exact q1
theorem acQ(h:fL w ao gb gs){ad:Addr}(ha:ao=some ad):∀j u,(gs.map (Value.int .i64))[j]? =some u->w.cell? (ad.add j)=some u:=fun j u hj=>by
 obtain⟨vo,ko⟩:=Af.1 hj;have Qi:j<gs.length:=by simpa using vo
 obtain⟨e,_⟩:=h.ig (by intro e;subst e;simp at Qi);rw[ha]at e
 cases e;rw[Ij,h.cell j Qi]
 simp at ko
 rw[ko]
theorem aoh(T:ju w G E c S Z i gs ts to0 eK b ag gb cg at_ tb ct n)(ht:c.bR=false)(hl:0<c.bB):
 Calls prog 67 #[.pointer (some ⟨E.xb,0,none⟩),.pointer (some ⟨b,0,none⟩),.int .i64 i,.slice ag gs.length cg,.slice at_ ts.length ct] w (dV (wS i (c::S) ts) w G E (c::S) i gs ts):=by
 obtain⟨nb,lb,lc,vm,z,hT⟩:=T.at T.h.aV (ef.refl w G) ⟨I.refl _ _,fun _ _ q=>q⟩;have c0:=hT.c0;have c1:=hT.c1;have c2:=hT.c2;have c4:=hT.c4;have c5:=hT.c5;have c6:=hT.c6;have l0:=hT.l0;have n8:=hT.n8;have uq:to0=ts:=by rw[T.fP,ht];rfl
 subst uq;rw[ht]at c4;have HC:=T.bB hT.next hl
 clear hT;go_in;go_wp2_with fail;refine HC.mono ?_;rintro e w4 hF;rcases hF.tA with rfl|⟨q,ao,cap,rfl⟩
 ·go_wp2_with fail
  go_ret3
  exact hF
 ·go_wp2_with fail
  go_ret3
  exact hF
theorem aop(T:ju w G E c S Z i gs ts to0 eK b ag gb cg at_ tb ct n)(ht:c.bR=false)(hl:¬0<c.bB)(hz:c.aY=0):
 Calls prog 67 #[.pointer (some ⟨E.xb,0,none⟩),.pointer (some ⟨b,0,none⟩),.int .i64 i,.slice ag gs.length cg,.slice at_ ts.length ct] w (dV (wS i (c::S) ts) w G E (c::S) i gs ts):=by
 obtain⟨nb,lb,lc,vm,z,hT⟩:=T.at T.h.aV (ef.refl w G) ⟨I.refl _ _,fun _ _ q=>q⟩;have c0:=hT.c0;have c1:=hT.c1;have c2:=hT.c2;have c4:=hT.c4;have c5:=hT.c5;have c6:=hT.c6;have l0:=hT.l0;have n8:=hT.n8;have uq:to0=ts:=by rw[T.fP,ht];rfl
 subst uq;rw[ht]at c4;rw[hz]at c2;have HC:=T.Nu hT.more hl hz;clear hT hz;go_in;go_wp2_with fail;refine HC.mono ?_;rintro e w4 hF;rcases hF.tA with rfl|⟨q,ao,cap,rfl⟩
 ·go_wp2_with fail
  go_ret3
  exact hF
 ·go_wp2_with fail
  go_ret3
  exact hF
theorem aoq(T:ju w G E c S Z i gs ts to0 eK b ag gb cg at_ tb ct n)(ht:c.bR=false)(hl:¬0<c.bB)(hm:0<c.aY)(hz:n.lz=false):
 Calls prog 67 #[.pointer (some ⟨E.xb,0,none⟩),.pointer (some ⟨b,0,none⟩),.int .i64 i,.slice ag gs.length cg,.slice at_ ts.length ct] w (dV (wS i (c::S) ts) w G E (c::S) i gs ts):=by
 obtain⟨nb,lb,lc,vm,z,hT⟩:=T.at T.h.aV (ef.refl w G) ⟨I.refl _ _,fun _ _ q=>q⟩;have c0:=hT.c0;have c1:=hT.c1;have c2:=hT.c2;have c4:=hT.c4;have c5:=hT.c5;have c6:=hT.c6;have l0:=hT.l0;have n8:=hT.n8;have uq:to0=ts:=by rw[T.fP,ht];rfl
 subst uq;rw[ht]at c4;have zy:eK=to0:=by rw[T.cP,if_neg (by omega)]
 subst zy;rw[hz]at n8;have wU:¬c.aY=0:=by omega
 have iy:¬c.aY<0:=by omega
 have HC:=T.Py (I.refl _ _) hT.next hl (by omega) hz T.h.rt T.h.tm T.h.pQ T.h.tz
 clear hT hz;go_in;go_wp2_with fail;refine HC.mono ?_;rintro e w4 (⟨q,ao,cap,rfl,hF⟩|⟨rfl,Yh,d5,HC2⟩)
 ·go_wp2_with fail
  go_ret3
  exact hF
 ·go_wp2_with fail
  refine HC2.mono ?_;rintro e w5 hF;rcases hF.tA with rfl|⟨q,ao,cap,rfl⟩
  ·go_wp2_with fail
   go_ret3
   exact hF
  ·go_wp2_with fail
   go_ret3
   exact hF
theorem aor(T:ju w G E c S Z i gs ts to0 eK b ag gb cg at_ tb ct n)(ht:c.bR=false)(hl:¬0<c.bB)(hm:0<c.aY)(hz:n.lz=true):
 Calls prog 67 #[.pointer (some ⟨E.xb,0,none⟩),.pointer (some ⟨b,0,none⟩),.int .i64 i,.slice ag gs.length cg,.slice at_ ts.length ct] w (dV (wS i (c::S) ts) w G E (c::S) i gs ts):=by
 obtain⟨nb,lb,lc,vm,z,hT⟩:=T.at T.h.aV (ef.refl w G) ⟨I.refl _ _,fun _ _ q=>q⟩;have c0:=hT.c0;have c1:=hT.c1;have c2:=hT.c2;have c4:=hT.c4;have c5:=hT.c5;have c6:=hT.c6;have l0:=hT.l0;have n8:=hT.n8;have uq:to0=ts:=by rw[T.fP,ht];rfl
 subst uq;rw[ht]at c4;have zy:eK=to0:=by rw[T.cP,if_neg (by omega)]
 subst zy;rw[hz]at n8;have wU:¬c.aY=0:=by omega
 have iy:¬c.aY<0:=by omega
 have HC:=T.lazy (I.refl _ _) hT.more hl (by omega) hz T.h.rt T.h.tm T.h.pQ T.h.tz;clear hT hz;go_in;go_wp2_with fail;refine HC.mono ?_;rintro e w4 (⟨q,ao,cap,rfl,hF⟩|⟨rfl,Re,WJ,z2,d6,d0,HC2⟩)
 ·go_wp2_with fail
  go_ret3
  exact hF
 ·go_wp2_with fail
  refine HC2.mono ?_;rintro e w5 hF;rcases hF.tA with rfl|⟨q,ao,cap,rfl⟩
  ·go_wp2_with fail
   go_ret3
   exact hF
  ·go_wp2_with fail
   go_ret3
   exact hF
structure MS where
 aT:Int
 sp:bN
 fo:Bool
 nt:Bool
 kN:Int
 slot:Int
 next:Int
 ch:Int
def cy:MS:=⟨0,[],false,false,0,0,0,0⟩
def qt(sp:bN)(fo nt:Bool)(nx:Int):MS:=⟨1,sp,fo,nt,0,0,nx,0⟩
def tC(e:Int)(nx:Int):MS:=⟨2,[],false,false,e,0,nx,0⟩
def iG(s:Int)(nx:Int):MS:=⟨3,[],false,false,0,s,nx,0⟩
def kR(a b:Int):MS:=⟨4,[],false,false,0,0,a,b⟩
abbrev Ex:=Int×Int
abbrev Bl:=List MS->Ex->List MS×Ex
def ft(s:Int->MS):Bl:=fun st nx=>
 if nx.1=nx.2 then(st++[s nx.2],(st.length,st.length))
 else if nx.1= -1 then(st++[s nx.2],(-1,st.length))
 else(st++[s nx.2]++[s nx.1],(st.length+1,st.length))
def ei(st:List MS)(a b:Int):List MS×Int:=if a= -1 then(st,b)else if b= -1 then(st,a)else(st++[kR a b],st.length)
def gx(st:List MS)(f s:Ex):List MS×Ex:=
 if f.1=f.2/\s.1=s.2 then((ei st f.2 s.2).1,((ei st f.2 s.2).2,(ei st f.2 s.2).2))
 else((ei (ei st f.2 s.2).1 f.1 s.1).1,((ei (ei st f.2 s.2).1 f.1 s.1).2,(ei st f.2 s.2).2))
def dE(lz:Bool)(st:List MS)(part rest:Ex):List MS×Ex:=if lz then gx st rest part else gx st part rest
def ow(part:Bl):Nat->Bl
 |0=>fun st nx=>(st,nx)
 |m+1=>fun st nx=>ow part m (part st nx).1 (part st nx).2
def fI(part:Bl)(lz:Bool)(nx:Ex):Nat->Bl
 |0=>fun st all=>(st,all)
 |m+1=>fun st all=>fI part lz nx m (dE lz (part st all).1 (part st all).2 nx).1 (dE lz (part st all).1 (part st all).2 nx).2
def rC(part:Bl)(lz:Bool):Bl:=fun st nx=>
 dE lz (part (st++[cy]) (-1,st.length)).1 ((part (st++[cy]) (-1,st.length)).2.1,(part (st++[cy]) (-1,st.length)).2.1) nx
def ou(part:Bl)(lz:Bool):Bl:=fun st nx=>((rC part lz st nx).1.set st.length ((rC part lz st nx).1.getD (rC part lz st nx).2.2.toNat cy),(rC part lz st nx).2)
def ox(part:Bl)(lo hi:Int)(lz:Bool):Bl:=fun st nx=>
 if hi= -1 then ow part lo.toNat (ou part lz st nx).1 (ou part lz st nx).2
 else ow part lo.toNat (fI part lz nx (hi-lo).toNat st nx).1 (fI part lz nx (hi-lo).toNat st nx).2
mutual
def bQ:CT->Bl
 |.node k sp fo nt ed gr lo hi lz aJ=>fun st nx=>
  if k=0 then(st++[qt sp fo nt nx.2],(st.length,st.length))
  else if k=1 then ft (tC ed) st nx
  else if k=2 then
   if gr=0 then mS aJ st nx
   else ft (iG (2*(gr-1))) (mS aJ (ft (iG (2*(gr-1)+1)) st nx).1 (ft (iG (2*(gr-1)+1)) st nx).2).1 (mS aJ (ft (iG (2*(gr-1)+1)) st nx).1 (ft (iG (2*(gr-1)+1)) st nx).2).2
  else if k=3 then kL aJ st nx
  else if k=4 then jh aJ st nx
  else ox (mS aJ) lo hi lz st nx
def mS:List CT->Bl
 | []=>fun st nx=>(st,nx)
 |c::_=>bQ c
def kL:List CT->Bl
 | []=>fun st nx=>(st,nx)
 |c::cs=>fun st nx=>bQ c (kL cs st nx).1 (kL cs st nx).2
def jh:List CT->Bl
 | []=>fun st nx=>(st,nx)
 | [c]=>bQ c
 |c::d::cs=>fun st nx=>gx (bQ c (jh (d::cs) st nx).1 nx).1 (bQ c (jh (d::cs) st nx).1 nx).2 (jh (d::cs) st nx).2
end
mutual
def CT.sz:CT->Int
 |.node k sp fo nt ed gr lo hi lz aJ=>
  min (if k=0\/k=1\/k=2 then CT.cW aJ+1 else if k=4 then CT.cW aJ+((aJ.length:Int)-1)else if k=5 then(if hi= -1 then lo+1 else hi)*(CT.cW aJ+1)else CT.cW aJ) 1001
def CT.cW:List CT->Int
 | []=>0
 |c::cs=>CT.sz c+CT.cW cs
end
mutual
def CT.ok:CT->Prop
 |.node k sp fo nt ed gr lo hi lz aJ=>
  (k=0\/k=1\/k=2\/k=3\/k=4\/k=5)/\(k=2\/k=5->aJ.length=1)/\(k=4->aJ≠ [])/\(k=5->0<=lo/\lo<=20/\ -1<=hi/\hi<=20/\(hi= -1\/lo<=hi))/\CT.de aJ
def CT.de:List CT->Prop
 | []=>True
 |c::cs=>CT.ok c/\CT.de cs
end
def dv(n:Nat)(nx:Ex):Prop:=(0<=nx.2/\nx.2<n)/\(-1<=nx.1/\nx.1<n)
def tM(n:Nat)(m:MS):Prop:=(0<=m.next/\m.next<n)/\(0<=m.ch/\m.ch<n)
def pS(st:List MS):Prop:=∀m∈st,tM st.length m
theorem tM.mono{n:Nat}{m:MS}(h:tM n m)(hle:n<=k):tM k m:=by unfold tM at*;omega
theorem dv.mono{n:Nat}{x:Ex}(h:dv n x)(hle:n<=k):dv k x:=by unfold dv at*;omega
theorem pS.lg{st:List MS}(h:pS st){m:MS}(hm:tM (st.length+1) m):pS (st++[m]):=by
 intro y hy;simp only[Ao,A1,A8];rcases A2.1 hy with h1|h1
 ·exact(h y h1).mono (by omega)
 ·simp at h1;subst h1;exact hm
def gO(M:List MS)(a b:Nat)(st:List MS):Prop:=∀j,a<=j->j<b->M[j]? =st[j]?
theorem take_take{a b c:List MS}(h1:b.take a.length=a)(h2:c.take b.length=b)(hl:a.length<=b.length):c.take a.length=a:=by
 have e:(c.take b.length).take a.length=c.take a.length:=by rw[List.take_take,Nat.min_eq_left hl]
 rw[<-e,h2,h1]
theorem Lz{a b:List MS}(h:b.take a.length=a)(hj:j<a.length):b[j]? =a[j]? :=by
 have e:(b.take a.length)[j]? =b[j]? :=Al hj;rw[<-e,h]
theorem gO.left{M a b:List MS}(h:gO M l b.length b)(hg:b.take a.length=a)(hle:a.length<=b.length):gO M l a.length a:=fun j h1 h2=>by
 rw[h j h1 (by omega),Lz hg h2]
theorem gO.right{M a b:List MS}(h:gO M l b.length b)(hle:l<=a.length):gO M a.length b.length b:=fun j h1 h2=>h j (by omega) h2
inductive ff(M:List MS):Int->Prop where
 |stop (s:Nat) (m:MS) (h:M[s]? =some m) (hk:m.aT≠2/\m.aT≠3/\m.aT≠4):ff M s
 |one (s:Nat) (m:MS) (h:M[s]? =some m) (hk:m.aT=2\/m.aT=3) (hn:ff M m.next):ff M s
 |cX (s:Nat) (m:MS) (h:M[s]? =some m) (hk:m.aT=4) (hn:ff M m.next) (ho:ff M m.ch):ff M s
theorem ff.JF{M:List MS}(h:ff M s):0<=s:=by cases h<;>omega
def tI(M:List MS)(s:Int):Prop:=s= -1\/ff M s
theorem tI.u7{M:List MS}(h:tI M s)(hs:s≠ -1):ff M s:=h.resolve_left hs
def j7(N:Nat->Prop)(nx:Ex)(s:Int):Prop:=(∃j:Nat,s=j/\N j)\/s=nx.2\/(s=nx.1/\nx.1≠ -1)
theorem j7.mono{nx:Ex}(h:j7 N nx s)(hN:∀j,N j->N' j):j7 N' nx s:=by
 rcases h with⟨j,h1,h2⟩|h
 ·exact Or.inl ⟨j,h1,hN j h2⟩
 ·exact Or.inr h
def Fy(P:Int->Prop)(m:MS):Prop:=(m.aT=1\/m.aT=2\/m.aT=3\/m.aT=4->P m.next)/\(m.aT=4->P m.ch)
theorem Fy.mono{P Q:Int->Prop}{m:MS}(h:Fy P m)(hPQ:∀s,P s->Q s):Fy Q m:=⟨fun a=>hPQ _ (h.1 a),fun a=>hPQ _ (h.2 a)⟩
structure lL(M:List MS)(nx:Ex)(N:Nat->Prop)(a b:Nat)(x:Ex):Prop where
 AG:∀j,N j->a<=j/\j<b
 DV:x.1= -1\/j7 N nx x.1
 th:j7 N nx x.2
 e1:tI M nx.1->tI M x.1
 e2:ff M nx.2->ff M x.2
 cl:∀j,N j->∃m,M[j]? =some m/\Fy (j7 N nx) m
 es:ff M nx.2->tI M nx.1->∀j:Nat,N j->ff M j
theorem lL.refl(M:List MS)(nx:Ex)(a:Nat):lL M nx (fun _=>False) a a nx where
 AG j h:=h.elim
 DV:=by
  by_cases h:nx.1= -1
  ·exact Or.inl h
  ·exact Or.inr (Or.inr (Or.inr ⟨rfl,h⟩))
 th:=Or.inr (Or.inl rfl)
 e1 h:=h
 e2 h:=h
 cl j h:=h.elim
 es _ _ j h:=h.elim
theorem lL.zU{M:List MS}{nx x:Ex}(h:lL M nx N a b x)(hs:j7 N' x s):j7 (fun j=>N j\/N' j) nx s:=by
 rcases hs with⟨j,h1,h2⟩|rfl|⟨rfl,h2⟩
 ·exact Or.inl ⟨j,h1,Or.inr h2⟩
 ·exact h.th.mono (fun j hj=>Or.inl hj)
 ·exact(h.DV.resolve_left h2).mono (fun j hj=>Or.inl hj)
theorem lL.trans{M:List MS}{nx x y:Ex}{c:Nat}(h:lL M nx N a b x)(h':lL M x N' b c y)(Gh:a<=b)(CV:b<=c):lL M nx (fun j=>N j\/N' j) a c y where
 AG j hj:=by
  rcases hj with hj|hj
  ·have:=h.AG j hj;omega
  ·have:=h'.AG j hj;omega
 DV:=h'.DV.imp_right h.zU
 th:=h.zU h'.th
 e1 e:=h'.e1 (h.e1 e)
 e2 e:=h'.e2 (h.e2 e)
 cl j hj:=by
  rcases hj with hj|hj
  ·obtain⟨m,h1,h2⟩:=h.cl j hj;exact⟨m,h1,h2.mono (fun s hs=>hs.mono (fun j hj=>Or.inl hj))⟩
  ·obtain⟨m,h1,h2⟩:=h'.cl j hj;exact⟨m,h1,h2.mono (fun s hs=>h.zU hs)⟩
 es e1 e2 j hj:=by
  rcases hj with hj|hj
  ·exact h.es e1 e2 j hj
  ·exact h'.es (h.e2 e1) (h.e1 e2) j hj
structure BS(f:Bl)(c:Nat):Prop where
 grow:∀st nx,st.length<=(f st nx).1.length/\(f st nx).1.take st.length=st
 cB:∀st nx,(f st nx).1.length<=st.length+c
 fG:∀st nx,dv st.length nx->dv (f st nx).1.length (f st nx).2
 pd:∀st nx,dv st.length nx->pS st->pS (f st nx).1
 sub:∀st nx,dv st.length nx->∀M,gO M st.length (f st nx).1.length (f st nx).1->∃N,lL M nx N st.length (f st nx).1.length (f st nx).2
theorem BS.more{f:Bl}{c:Nat}(h:BS f c)(hcd:c<=d):BS f d:=⟨h.grow,fun st nx=>by have:=h.cB st nx;omega,h.fG,h.pd,h.sub⟩
theorem BS.id:BS (fun st nx=>(st,nx)) 0 where
 grow st nx:=⟨Aa _,Ce⟩
 cB st nx:=Aa _
 fG st nx h:=h
 pd st nx _ h:=h
 sub st nx h M hM:=⟨_,lL.refl M nx st.length⟩
theorem BS.comp{f g:Bl}{c:Nat}(hf:BS f c)(hg:BS g d):BS (fun st nx=>f (g st nx).1 (g st nx).2) (d+c) where
 grow st nx:=by
  have a:=hg.grow st nx;have b:=hf.grow (g st nx).1 (g st nx).2;exact⟨by omega,take_take a.2 b.2 a.1⟩
 cB st nx:=by
  have a:=hg.cB st nx;have b:=hf.cB (g st nx).1 (g st nx).2;show(f (g st nx).1 (g st nx).2).1.length<=_
  omega
 fG st nx h:=hf.fG _ _ (hg.fG _ _ h)
 pd st nx h ha:=hf.pd _ _ (hg.fG _ _ h) (hg.pd _ _ h ha)
 sub st nx h M hM:=by
  have a:=hg.grow st nx;have b:=hf.grow (g st nx).1 (g st nx).2;obtain⟨N,hN⟩:=hg.sub st nx h M (hM.left b.2 b.1);obtain⟨N',UX⟩:=hf.sub (g st nx).1 (g st nx).2 (hg.fG _ _ h) M (hM.right a.1);exact⟨_,hN.trans UX a.1 b.1⟩
theorem zm(st:List MS)(m:MS):(st++[m])[st.length]? =some m:=by simp
theorem gO.at{M st:List MS}(h:gO M a b st){m:MS}(h1:a<=j)(h2:j<b)(hm:st[j]? =some m):M[j]? =some m:=(h j h1 h2).trans hm
theorem BS.take(sp:bN)(fo nt:Bool):BS (fun st nx=>(st++[qt sp fo nt nx.2],((st.length:Int),(st.length:Int)))) 1 where
 grow st nx:=⟨by simp,by simp⟩
 cB st nx:=by simp
 fG st nx h:=by unfold dv;simp;omega
 pd st nx h ha:=ha.lg (by unfold dv at h;unfold tM qt;simp only;omega)
 sub st nx h M hM:=by
  have hm:M[st.length]? =some (qt sp fo nt nx.2):=hM.at (Aa _) (by simp) (zm _ _);have hE:ff M (st.length:Int):=ff.stop _ _ hm ⟨by simp[qt],by simp[qt],by simp[qt]⟩
  exact⟨fun j=>j=st.length,⟨fun j hj=>by subst hj;simp,Or.inr (Or.inl ⟨_,rfl,rfl⟩),Or.inl ⟨_,rfl,rfl⟩,fun _=>Or.inr hE,fun _=>hE,fun j hj=>by
   subst hj;exact⟨_,hm,fun _=>Or.inr (Or.inl rfl),fun h=>by simp[qt]at h⟩,fun _ _ j hj=>by subst hj;exact hE⟩⟩
theorem BS.tl(s:Int->MS)(hk:∀n,(s n).aT=2\/(s n).aT=3)(hn:∀n,(s n).next=n/\(s n).ch=0):BS (ft s) 2 where
 grow st nx:=by
  unfold ft;split
  ·exact⟨by simp,by simp⟩
  ·split
   ·exact⟨by simp,by simp⟩
   ·exact⟨by simp,by simp⟩
 cB st nx:=by
  unfold ft;split
  ·simp
  ·split
   ·simp
   ·simp
 fG st nx h:=by
  unfold dv at h;unfold ft;split
  ·unfold dv;simp;omega
  ·split
   ·unfold dv;simp;omega
   ·unfold dv;simp;omega
 pd st nx h ha:=by
  have h1:=hn nx.2;have h2:=hn nx.1;unfold dv at h;have a1:pS (st++[s nx.2]):=ha.lg (by unfold tM;rw[h1.1,h1.2];omega);unfold ft;split
  ·exact a1
  ·split
   ·exact a1
   ·exact a1.lg (by unfold tM;rw[h2.1,h2.2];simp;omega)
 sub st nx h M hM:=by
  have aG:=hk nx.2;have aI:=hk nx.1;have sZ:=hn nx.2;have kt:=hn nx.1;unfold ft at hM⊢;by_cases c1:nx.1=nx.2
  ·rw[if_pos c1]at hM⊢;have hm:M[st.length]? =some (s nx.2):=hM.at (Aa _) (by simp) (zm _ _);have hE:ff M nx.2->ff M (st.length:Int):=(fun e=>ff.one _ _ hm aG (by rw[sZ.1];exact e));have h0:nx.1≠ -1:=by unfold dv at h;omega
   exact⟨fun j=>j=st.length,⟨fun j hj=>by subst hj;simp,Or.inr (Or.inl ⟨_,rfl,rfl⟩),Or.inl ⟨_,rfl,rfl⟩,fun e=>Or.inr (hE (c1▸e.u7 h0)),hE,fun j hj=>by
    subst hj;exact⟨_,hm,fun _=>Or.inr (Or.inl sZ.1),fun h=>by rcases aG with e|e<;>omega⟩,fun e _ j hj=>by subst hj;exact hE e⟩⟩
  ·rw[if_neg c1]at hM⊢;by_cases c2:nx.1= -1
   ·rw[if_pos c2]at hM⊢;have hm:M[st.length]? =some (s nx.2):=hM.at (Aa _) (by simp) (zm _ _);have hE:ff M nx.2->ff M (st.length:Int):=fun e=>ff.one _ _ hm aG (by rw[sZ.1];exact e)
    exact⟨fun j=>j=st.length,⟨fun j hj=>by subst hj;simp,Or.inl rfl,Or.inl ⟨_,rfl,rfl⟩,fun e=>Or.inl rfl,hE,fun j hj=>by
     subst hj;exact⟨_,hm,fun _=>Or.inr (Or.inl sZ.1),fun h=>by rcases aG with e|e<;>omega⟩,fun e _ j hj=>by subst hj;exact hE e⟩⟩
   ·rw[if_neg c2]at hM⊢;have hm:M[st.length]? =some (s nx.2):=hM.at (Aa _) (by simp) (by simp)
    have jN:M[st.length+1]? =some (s nx.1):=hM.at (by omega) (by simp) (by
     have:=zm (st++[s nx.2]) (s nx.1);rw[Ao]at this;exact this)
    have hE:ff M nx.2->ff M (st.length:Int):=(fun e=>ff.one _ _ hm aG (by rw[sZ.1];exact e));have hE':tI M nx.1->ff M ((st.length+1:Nat):Int):=fun e=>ff.one _ _ jN aI (by rw[kt.1];exact e.u7 c2)
    exact⟨fun j=>j=st.length\/j=st.length+1,⟨fun j hj=>by simp;omega,Or.inr (Or.inl ⟨st.length+1,by simp,Or.inr rfl⟩),Or.inl ⟨_,rfl,Or.inl rfl⟩,fun e=>Or.inr (by have:=hE' e;simpa using this),hE,fun j hj=>by
     rcases hj with rfl|rfl
     ·exact⟨_,hm,fun _=>Or.inr (Or.inl sZ.1),fun h=>by rcases aG with e|e<;>omega⟩
     ·exact⟨_,jN,fun _=>Or.inr (Or.inr ⟨kt.1,c2⟩),fun h=>by rcases aI with e|e<;>omega⟩,fun e e' j hj=>by
     rcases hj with rfl|rfl
     ·exact hE e
     ·exact hE' e'⟩⟩
theorem u9(st:List MS)(a b:Int):st.length<=(ei st a b).1.length/\(ei st a b).1.take st.length=st/\(ei st a b).1.length<=st.length+1:=by
 unfold ei;split
 ·exact⟨Aa _,Ce,by simp⟩
 ·split
  ·exact⟨Aa _,Ce,by simp⟩
  ·exact⟨by simp,by simp,by simp⟩
theorem abi{st:List MS}{a b:Int}(ha: -1<=a/\a<st.length)(hb: -1<=b/\b<st.length): -1<=(ei st a b).2/\(ei st a b).2<(ei st a b).1.length/\((a≠ -1\/b≠ -1)->(ei st a b).2≠ -1)/\(pS st->pS (ei st a b).1):=by
 unfold ei;split
 ·exact⟨hb.1,hb.2,fun h=>by rcases h with h|h<;>omega,fun h=>h⟩
 ·split
  ·exact⟨ha.1,ha.2,fun h=>by rcases h with h|h<;>omega,fun h=>h⟩
  ·exact⟨by simp only;omega,by simp only[Ao,A1,A8];omega,fun _=>by simp only;omega,fun h=>h.lg (by unfold tM kR;simp only;omega)⟩
theorem Ut{M st:List MS}{nx:Ex}{a b:Int}(hM:gO M st.length (ei st a b).1.length (ei st a b).1)(ha:a= -1\/j7 N nx a)(hb:b= -1\/j7 N nx b):
 ∃N':Nat->Prop,(∀j,N' j->st.length<=j/\j<(ei st a b).1.length)/\((ei st a b).2= -1\/j7 (fun j=>N j\/N' j) nx (ei st a b).2)/\(j7 N nx a->j7 N nx b->j7 (fun j=>N j\/N' j) nx (ei st a b).2)/\
  (tI M a->tI M b->tI M (ei st a b).2)/\(∀j,N' j->∃m,M[j]? =some m/\Fy (j7 N nx) m)/\(tI M a->tI M b->∀j:Nat,N' j->ff M j):=by
 unfold ei at*;by_cases c1:a= -1
 ·simp only[if_pos c1]at hM⊢;exact⟨fun _=>False,fun j h=>h.elim,hb.imp_right (fun h=>h.mono (fun j hj=>Or.inl hj)),fun _ h=>h.mono (fun j hj=>Or.inl hj),fun _ h=>h,fun j h=>h.elim,fun _ _ j h=>h.elim⟩
 ·simp only[if_neg c1]at hM⊢;by_cases c2:b= -1
  ·simp only[if_pos c2]at hM⊢;exact⟨fun _=>False,fun j h=>h.elim,ha.imp_right (fun h=>h.mono (fun j hj=>Or.inl hj)),fun h _=>h.mono (fun j hj=>Or.inl hj),fun h _=>h,fun j h=>h.elim,fun _ _ j h=>h.elim⟩
  ·simp only[if_neg c2]at hM⊢;have hm:M[st.length]? =some (kR a b):=hM.at (Aa _) (by simp) (zm _ _);have hE:tI M a->tI M b->ff M (st.length:Int):=(fun e e'=>ff.cX _ _ hm rfl (e.u7 c1) (e'.u7 c2));have hi:j7 (fun j=>N j\/j=st.length) nx (st.length:Int):=Or.inl ⟨_,rfl,Or.inr rfl⟩
   exact⟨fun j=>j=st.length,fun j h=>by subst h;simp,Or.inr hi,fun _ _=>hi,fun e e'=>Or.inr (hE e e'),fun j h=>by
    subst h;exact⟨_,hm,fun _=>ha.resolve_left c1,fun _=>hb.resolve_left c2⟩,fun e e' j h=>by subst h;exact hE e e'⟩
theorem F5(st:List MS)(f s:Ex):st.length<=(gx st f s).1.length/\(gx st f s).1.take st.length=st/\(gx st f s).1.length<=st.length+2:=by
 have h1:=u9 st f.2 s.2;unfold gx;split
 ·exact⟨h1.1,h1.2.1,by simp only;omega⟩
 ·have h2:=u9 (ei st f.2 s.2).1 f.1 s.1;exact⟨by simp only;omega,take_take h1.2.1 h2.2.1 h1.1,by simp only;omega⟩
theorem IB{st:List MS}{f s:Ex}(hf:(-1<=f.2/\f.2<st.length)/\(-1<=f.1/\f.1<st.length))(hs:(-1<=s.2/\s.2<st.length)/\(-1<=s.1/\s.1<st.length))(aF:f.2≠ -1\/s.2≠ -1):
 dv (gx st f s).1.length (gx st f s).2/\(pS st->pS (gx st f s).1):=by
 have h1:=abi hf.1 hs.1;have g1:=u9 st f.2 s.2;have hv:=h1.2.2.1 aF;unfold gx;split
 ·exact⟨⟨by simp only;omega,by simp only;omega⟩,h1.2.2.2⟩
 ·have h2:=abi (st:=(ei st f.2 s.2).1) (a:=f.1) (b:=s.1) (by omega) (by omega);have g2:=u9 (ei st f.2 s.2).1 f.1 s.1;exact⟨⟨by simp only;omega,by simp only;omega⟩,fun h=>h2.2.2.2 (h1.2.2.2 h)⟩
theorem Uv{M st:List MS}{nx:Ex}{f s:Ex}(hf:lL M nx N a b f)(hs:lL M nx N' a' b' s)(h0:c0<=st.length)(zn:c0<=a)(UM:c0<=a')(Gh:b<=st.length)(CV:b'<=st.length)
 (hM:gO M st.length (gx st f s).1.length (gx st f s).1):∃K,lL M nx K c0 (gx st f s).1.length (gx st f s).2:=by
 have lf:∀{t:Int},j7 N nx t->j7 (fun j=>N j\/N' j) nx t:=fun h=>h.mono (fun j hj=>Or.inl hj)
 have ls:∀{t:Int},j7 N' nx t->j7 (fun j=>N j\/N' j) nx t:=fun h=>h.mono (fun j hj=>Or.inr hj)
 have g1:=u9 st f.2 s.2
 have vH:∀(K:Nat->Prop) j,N j\/N' j->∃m,M[j]? =some m/\Fy (j7 (fun j=>(N j\/N' j)\/K j) nx) m:=by
  intro K j hj;rcases hj with hj|hj
  ·obtain⟨m,h1,h2⟩:=hf.cl j hj;exact⟨m,h1,h2.mono (fun t ht=>(lf ht).mono (fun j hj=>Or.inl hj))⟩
  ·obtain⟨m,h1,h2⟩:=hs.cl j hj;exact⟨m,h1,h2.mono (fun t ht=>(ls ht).mono (fun j hj=>Or.inl hj))⟩
 unfold gx at hM⊢;by_cases c:f.1=f.2/\s.1=s.2
 ·rw[if_pos c]at hM⊢;obtain⟨K,k1,k2,k3,k4,k5,k6⟩:=Ut (N:=fun j=>N j\/N' j) (nx:=nx) hM (Or.inr (lf hf.th)) (Or.inr (ls hs.th));have cP:=k3 (lf hf.th) (ls hs.th)
  have dX:ff M nx.2->ff M (ei st f.2 s.2).2:=fun e=>by
   have hx:=k4 (Or.inr (hf.e2 e)) (Or.inr (hs.e2 e));rcases hx with hx|hx
   ·exfalso
    have h0:=(hf.e2 e).JF;have h1:=(hs.e2 e).JF;unfold ei at hx;rw[if_neg (by omega),if_neg (by omega)]at hx;simp only at hx;omega
   ·exact hx
  refine⟨fun j=>(N j\/N' j)\/K j,⟨fun j hj=>?_,Or.inr cP,cP,fun e=>?_,dX,fun j hj=>?_,fun e e' j hj=>?_⟩⟩
  ·rcases hj with(hj|hj)|hj
   ·have:=hf.AG j hj;simp only;omega
   ·have:=hs.AG j hj;simp only;omega
   ·have:=k1 j hj;simp only;omega
  ·exact k4 (c.1▸hf.e1 e) (c.2▸hs.e1 e)
  ·rcases hj with hj|hj
   ·exact vH K j hj
   ·obtain⟨m,h1,h2⟩:=k5 j hj;exact⟨m,h1,h2.mono (fun t ht=>ht.mono (fun j hj=>Or.inl hj))⟩
  ·rcases hj with(hj|hj)|hj
   ·exact hf.es e e' j hj
   ·exact hs.es e e' j hj
   ·exact k6 (Or.inr (hf.e2 e)) (Or.inr (hs.e2 e)) j hj
 ·rw[if_neg c]at hM⊢;have g2:=u9 (ei st f.2 s.2).1 f.1 s.1;have rL:gO M st.length (ei st f.2 s.2).1.length (ei st f.2 s.2).1:=hM.left g2.2.1 g2.1;have PQ:=hM.right (a:=(ei st f.2 s.2).1) g1.1;obtain⟨K,k1,k2,k3,k4,k5,k6⟩:=Ut (N:=fun j=>N j\/N' j) (nx:=nx) rL (Or.inr (lf hf.th)) (Or.inr (ls hs.th));obtain⟨J,j1,j2,j3,j4,j5,j6⟩:=Ut (N:=fun j=>N j\/N' j) (nx:=nx) PQ (hf.DV.imp_right lf) (hs.DV.imp_right ls);have cP:=k3 (lf hf.th) (ls hs.th)
  have dX:ff M nx.2->ff M (ei st f.2 s.2).2:=fun e=>by
   have hx:=k4 (Or.inr (hf.e2 e)) (Or.inr (hs.e2 e));rcases hx with hx|hx
   ·exfalso
    have h0:=(hf.e2 e).JF;have h1:=(hs.e2 e).JF;unfold ei at hx;rw[if_neg (by omega),if_neg (by omega)]at hx;simp only at hx;omega
   ·exact hx
  refine⟨fun j=>(N j\/N' j)\/(K j\/J j),⟨fun j hj=>?_,?_,?_,fun e=>j4 (hf.e1 e) (hs.e1 e),dX,fun j hj=>?_,fun e e' j hj=>?_⟩⟩
  ·rcases hj with(hj|hj)|(hj|hj)
   ·have:=hf.AG j hj;simp only;omega
   ·have:=hs.AG j hj;simp only;omega
   ·have:=k1 j hj;simp only;omega
   ·have:=j1 j hj;simp only;omega
  ·exact j2.imp_right (fun h=>h.mono (fun j hj=>hj.imp_right Or.inr))
  ·exact cP.mono (fun j hj=>hj.imp_right Or.inl)
  ·rcases hj with hj|(hj|hj)
   ·exact vH _ j hj
   ·obtain⟨m,h1,h2⟩:=k5 j hj;exact⟨m,h1,h2.mono (fun t ht=>ht.mono (fun j hj=>Or.inl hj))⟩
   ·obtain⟨m,h1,h2⟩:=j5 j hj;exact⟨m,h1,h2.mono (fun t ht=>ht.mono (fun j hj=>Or.inl hj))⟩
  ·rcases hj with(hj|hj)|(hj|hj)
   ·exact hf.es e e' j hj
   ·exact hs.es e e' j hj
   ·exact k6 (Or.inr (hf.e2 e)) (Or.inr (hs.e2 e)) j hj
   ·exact j6 (hf.e1 e') (hs.e1 e') j hj
theorem u6(lz:Bool)(st:List MS)(f s:Ex):st.length<=(dE lz st f s).1.length/\(dE lz st f s).1.take st.length=st/\(dE lz st f s).1.length<=st.length+2:=by
 unfold dE
 cases lz
 ·exact F5 st f s
 ·exact F5 st s f
theorem zj{st:List MS}(lz:Bool){f s:Ex}(hf:(-1<=f.2/\f.2<st.length)/\(-1<=f.1/\f.1<st.length))(hs:(-1<=s.2/\s.2<st.length)/\(-1<=s.1/\s.1<st.length))(aF:f.2≠ -1\/s.2≠ -1):
 dv (dE lz st f s).1.length (dE lz st f s).2/\(pS st->pS (dE lz st f s).1):=by
 unfold dE
 cases lz
 ·exact IB hf hs aF
 ·exact IB hs hf aF.symm
theorem aaY{M st:List MS}{nx:Ex}{f s:Ex}(lz:Bool)(hf:lL M nx N a b f)(hs:lL M nx N' a' b' s)(h0:c0<=st.length)(zn:c0<=a)(UM:c0<=a')(Gh:b<=st.length)(CV:b'<=st.length)
 (hM:gO M st.length (dE lz st f s).1.length (dE lz st f s).1):∃K,lL M nx K c0 (dE lz st f s).1.length (dE lz st f s).2:=by
 unfold dE at*
 cases lz
 ·exact Uv hf hs h0 zn UM Gh CV hM
 ·exact Uv hs hf h0 UM zn CV Gh hM
theorem dv.mI{n:Nat}{x:Ex}(h:dv n x):(-1<=x.2/\x.2<n)/\(-1<=x.1/\x.1<n):=by unfold dv at h;omega
theorem BS.aw{f g:Bl}{c:Nat}(hf:BS f c)(hg:BS g d):BS (fun st nx=>gx (f (g st nx).1 nx).1 (f (g st nx).1 nx).2 (g st nx).2) (d+c+2) where
 grow st nx:=by
  have a:=hg.grow st nx;have b:=hf.grow (g st nx).1 nx;have e:=F5 (f (g st nx).1 nx).1 (f (g st nx).1 nx).2 (g st nx).2;exact⟨by omega,take_take (take_take a.2 b.2 a.1) e.2.1 (by omega)⟩
 cB st nx:=by
  have a:=hg.cB st nx;have b:=hf.cB (g st nx).1 nx;have e:=F5 (f (g st nx).1 nx).1 (f (g st nx).1 nx).2 (g st nx).2;omega
 fG st nx h:=by
  have a:=hg.grow st nx;have b:=hf.grow (g st nx).1 nx;have x1:=hg.fG st nx h;have x2:=hf.fG (g st nx).1 nx (h.mono a.1);exact(IB x2.mI (x1.mono b.1).mI (Or.inl (by have:=x2.1;omega))).1
 pd st nx h ha:=by
  have a:=hg.grow st nx;have b:=hf.grow (g st nx).1 nx;have x1:=hg.fG st nx h;have x2:=hf.fG (g st nx).1 nx (h.mono a.1);exact(IB x2.mI (x1.mono b.1).mI (Or.inl (by have:=x2.1;omega))).2 (hf.pd _ _ (h.mono a.1) (hg.pd _ _ h ha))
 sub st nx h M hM:=by
  have a:=hg.grow st nx;have b:=hf.grow (g st nx).1 nx;have e:=F5 (f (g st nx).1 nx).1 (f (g st nx).1 nx).2 (g st nx).2;have rL:gO M st.length (f (g st nx).1 nx).1.length (f (g st nx).1 nx).1:=hM.left e.2.1 e.1;obtain⟨N,hN⟩:=hg.sub st nx h M (rL.left b.2 b.1);obtain⟨N',UX⟩:=hf.sub (g st nx).1 nx (h.mono a.1) M (rL.right a.1);exact Uv UX hN (by omega) a.1 (Aa _) (Aa _) b.1 (hM.right (by omega))
theorem BS.nj{f:Bl}{c:Nat}(hf:BS f c):∀m,BS (ow f m) (m*c)
 |0=>by rw[Nat.zero_mul];exact BS.id
 |m+1=>by
  have:=(BS.nj hf m).comp hf;exact this.more (by rw[E0];omega)
structure BO(lz:Bool)(part:Bl)(m:Nat)(c:Nat):Prop where
 grow:∀nx st all,st.length<=(fI part lz nx m st all).1.length/\(fI part lz nx m st all).1.take st.length=st
 cB:∀nx st all,(fI part lz nx m st all).1.length<=st.length+c
 fG:∀nx st all,dv st.length nx->dv st.length all->dv (fI part lz nx m st all).1.length (fI part lz nx m st all).2
 pd:∀nx st all,dv st.length nx->dv st.length all->pS st->pS (fI part lz nx m st all).1
 sub:∀nx st all,dv st.length nx->dv st.length all->∀M,gO M st.length (fI part lz nx m st all).1.length (fI part lz nx m st all).1->∀a N,a<=st.length->lL M nx N a st.length all->∃N',lL M nx N' a (fI part lz nx m st all).1.length (fI part lz nx m st all).2
theorem BS.oT{f:Bl}{c:Nat}(lz:Bool)(hf:BS f c):∀m,BO lz f m (m*(c+2))
 |0=>⟨fun nx st all=>⟨Aa _,Ce⟩,fun nx st all=>by simp[fI],fun nx st all _ h=>h,fun nx st all _ _ h=>h,fun nx st all _ _ M _ a N _ h=>⟨N,h⟩⟩
 |m+1=>by
  have ih:=BS.oT lz hf m;refine⟨fun nx st all=>?_,fun nx st all=>?_,fun nx st all hn ha=>?_,fun nx st all hn ha hA=>?_,fun nx st all hn ha M hM a N hle hN=>?_⟩
  ·have g1:=hf.grow st all;have g2:=u6 lz (f st all).1 (f st all).2 nx;have g3:=ih.grow nx (dE lz (f st all).1 (f st all).2 nx).1 (dE lz (f st all).1 (f st all).2 nx).2;exact⟨by unfold fI;omega,take_take (take_take g1.2 g2.2.1 g1.1) g3.2 (by omega)⟩
  ·have g1:=hf.cB st all;have g2:=u6 lz (f st all).1 (f st all).2 nx;have g3:=ih.cB nx (dE lz (f st all).1 (f st all).2 nx).1 (dE lz (f st all).1 (f st all).2 nx).2;rw[E0];unfold fI;omega
  ·have g1:=hf.grow st all;have g2:=u6 lz (f st all).1 (f st all).2 nx;have x2:=hf.fG st all ha;have x3:=zj lz x2.mI (hn.mono g1.1).mI (Or.inl (by have:=x2.1;omega));exact ih.fG nx _ _ (hn.mono (by omega)) x3.1
  ·have g1:=hf.grow st all;have g2:=u6 lz (f st all).1 (f st all).2 nx;have x2:=hf.fG st all ha;have x3:=zj lz x2.mI (hn.mono g1.1).mI (Or.inl (by have:=x2.1;omega));exact ih.pd nx _ _ (hn.mono (by omega)) x3.1 (x3.2 (hf.pd _ _ ha hA))
  ·have g1:=hf.grow st all;have g2:=u6 lz (f st all).1 (f st all).2 nx;have g3:=ih.grow nx (dE lz (f st all).1 (f st all).2 nx).1 (dE lz (f st all).1 (f st all).2 nx).2;have x2:=hf.fG st all ha;have x3:=zj lz x2.mI (hn.mono g1.1).mI (Or.inl (by have:=x2.1;omega));have PQ:gO M st.length (dE lz (f st all).1 (f st all).2 nx).1.length (dE lz (f st all).1 (f st all).2 nx).1:=gO.left hM g3.2 g3.1;obtain⟨N1,h1⟩:=hf.sub st all ha M (PQ.left g2.2.1 g2.1);obtain⟨K,hK⟩:=aaY lz (hN.trans h1 hle g1.1) (lL.refl M nx a) (by omega) (Aa _) (Aa _) (Aa _) (by omega) (PQ.right g1.1);exact ih.sub nx _ _ (hn.mono (by omega)) x3.1 M (gO.right hM (by omega)) a K (by omega) hK
theorem BO.bs{f:Bl}{lz:Bool}{m c:Nat}(h:BO lz f m c):BS (fun st nx=>fI f lz nx m st nx) c where
 grow st nx:=h.grow nx st nx
 cB st nx:=h.cB nx st nx
 fG st nx hx:=h.fG nx st nx hx hx
 pd st nx hx ha:=h.pd nx st nx hx hx ha
 sub st nx hx M hM:=h.sub nx st nx hx hx M hM st.length _ (Aa _) (lL.refl M nx st.length)
theorem aaV(lz:Bool)(st:List MS)(nx:Ex):dE lz st (-1,-1) nx=(st,nx):=by
 obtain⟨a,b⟩:=nx;unfold dE gx ei;by_cases h:a=b
 ·subst h;by_cases h2:a= -1<;>cases lz<;>simp[h2]
 ·by_cases h2:a= -1<;>by_cases h3:b= -1<;>cases lz<;>simp[h,h2,h3]<;>omega
theorem aaU(lz:Bool)(st:List MS){t:Int}{nx:Ex}(ht:t≠ -1)(hn:nx.2≠ -1):(dE lz st (t,t) nx).2.2=st.length/\(dE lz st (t,t) nx).1[st.length]? =some (if lz then kR nx.2 t else kR t nx.2):=by
 cases lz
 ·have h1:ei st t nx.2=(st++[kR t nx.2],(st.length:Int)):=by unfold ei;rw[if_neg ht,if_neg hn]
  simp only[dE,Ag,if_false];unfold gx;simp only;rw[h1];split
  ·exact⟨rfl,by simp⟩
  ·have g:=u9 (st++[kR t nx.2]) t nx.1;exact⟨rfl,(Lz g.2.1 (by simp)).trans (by simp)⟩
 ·have h1:ei st nx.2 t=(st++[kR nx.2 t],(st.length:Int)):=by unfold ei;rw[if_neg hn,if_neg ht]
  simp only[dE,if_true];unfold gx;simp only;rw[h1];split
  ·exact⟨rfl,by simp⟩
  ·have g:=u9 (st++[kR nx.2 t]) nx.1 t;exact⟨rfl,(Lz g.2.1 (by simp)).trans (by simp)⟩
theorem BS.loop{f:Bl}{c:Nat}(lz:Bool)(hf:BS f c):BS (ou f lz) (c+3) where
 grow st nx:=by
  have g1:=hf.grow (st++[cy]) (-1,st.length);have g2:=u6 lz (f (st++[cy]) (-1,st.length)).1 ((f (st++[cy]) (-1,st.length)).2.1,(f (st++[cy]) (-1,st.length)).2.1) nx;have g0:(st++[cy]).take st.length=st:=by simp
  have hl:(st++[cy]).length=st.length+1:=by simp
  rw[hl]at g1;unfold ou rC;refine⟨by simp only[Bw];omega,?_⟩;have e1:(f (st++[cy]) (-1,st.length)).1.take st.length=st:=take_take g0 (by rw[hl];exact g1.2) (by simp);have e2:=take_take e1 g2.2.1 (by omega);simp only;rw[List.take_set,List.set_eq_of_length_le (by simp;omega)];exact e2
 cB st nx:=by
  have g1:=hf.cB (st++[cy]) (-1,st.length);have g2:=u6 lz (f (st++[cy]) (-1,st.length)).1 ((f (st++[cy]) (-1,st.length)).2.1,(f (st++[cy]) (-1,st.length)).2.1) nx;have hl:(st++[cy]).length=st.length+1:=by simp
  unfold ou rC;simp only[Bw];omega
 fG st nx h:=by
  have hl:(st++[cy]).length=st.length+1:=by simp
  have x1:=hf.fG (st++[cy]) (-1,st.length) (by rw[hl];unfold dv;simp only;omega);have g1:=hf.grow (st++[cy]) (-1,st.length);have x2:=x1.2;have x3:=zj (st:=(f (st++[cy]) (-1,st.length)).1) lz (f:=((f (st++[cy]) (-1,st.length)).2.1,(f (st++[cy]) (-1,st.length)).2.1)) ⟨x2,x2⟩ (h.mono (by omega)).mI (Or.inr (by have:=h.1;omega));unfold ou rC;simp only[Bw];exact x3.1
 pd st nx h ha:=by
  have hl:(st++[cy]).length=st.length+1:=by simp
  have hx:dv (st++[cy]).length (-1,(st.length:Int)):=by rw[hl];unfold dv;simp only;omega
  have x1:=hf.fG (st++[cy]) (-1,st.length) hx;have a1:=hf.pd (st++[cy]) (-1,st.length) hx (ha.lg (by unfold tM cy;simp only;omega));have g1:=hf.grow (st++[cy]) (-1,st.length);have x2:=x1.2;have x3:=zj (st:=(f (st++[cy]) (-1,st.length)).1) lz (f:=((f (st++[cy]) (-1,st.length)).2.1,(f (st++[cy]) (-1,st.length)).2.1)) ⟨x2,x2⟩ (h.mono (by omega)).mI (Or.inr (by have:=h.1;omega));have a3:=x3.2 a1;unfold ou rC;intro m hm;simp only[Bw]at hm⊢;rcases D1 hm with h1|h1
  ·exact a3 m h1
  ·subst h1
   have ar:(dE lz (f (st++[cy]) (-1,st.length)).1 ((f (st++[cy]) (-1,st.length)).2.1,(f (st++[cy]) (-1,st.length)).2.1) nx).2.2.toNat<(dE lz (f (st++[cy]) (-1,st.length)).1 ((f (st++[cy]) (-1,st.length)).2.1,(f (st++[cy]) (-1,st.length)).2.1) nx).1.length:=by
    have:=x3.1.1;omega
   rw[Ae,Ab ar];exact a3 _ (Ay ar)
 sub st nx h M hM:=by
  have hl:(st++[cy]).length=st.length+1:=by simp
  have hx:dv (st++[cy]).length (-1,(st.length:Int)):=by rw[hl];unfold dv;simp only;omega
  have g1:=hf.grow (st++[cy]) (-1,st.length);have x1:=hf.fG (st++[cy]) (-1,st.length) hx;have afd:=hf.sub (st++[cy]) (-1,st.length) hx M;unfold ou rC at hM⊢;generalize hP:f (st++[cy]) (-1,st.length)=P at*;obtain⟨S,t,u⟩:=P;simp only[Bw]at hM g1 x1 afd⊢;have g2:=u6 lz S (t,t) nx;have n2:nx.2≠ -1:=by have:=h.1;omega
  by_cases ht:t= -1
  ·subst ht;rw[aaV]at hM⊢;refine⟨fun _=>False,?_⟩;have:=lL.refl M nx st.length;exact⟨fun j hj=>hj.elim,this.DV,this.th,this.e1,this.e2,this.cl,this.es⟩
  ·have em:=aaU lz S (t:=t) (nx:=nx) ht n2;generalize hE:dE lz S (t,t) nx=E at*
   have nS:E.1.getD E.2.2.toNat cy=(if lz then kR nx.2 t else kR t nx.2):=by
    rw[em.1,Cj,Ae,em.2];rfl
   rw[nS]at hM
   have hA:M[st.length]? =some (if lz then kR nx.2 t else kR t nx.2):=by
    rw[hM st.length (Aa _) (by omega)];exact Dt (by omega)
   have CQ:gO M (st.length+1) E.1.length E.1:=fun j h1 h2=>by
    rw[hM j (by omega) h2,A5 (by omega)]
   obtain⟨N,hN⟩:=afd (by rw[hl];exact gO.left CQ g2.2.1 g2.1);rw[hl]at hN;have QF:ff M t:=(hN.e1 (Or.inl rfl)).u7 ht
   have hAE:ff M nx.2->ff M (st.length:Int):=fun e=>by
    cases lz
    ·exact ff.cX _ _ hA rfl QF e
    ·exact ff.cX _ _ hA rfl e QF
   have zU:∀{s:Int},j7 N (-1,(st.length:Int)) s->j7 (fun j=>N j\/j=st.length) nx s:=by
    intro s hs;rcases hs with⟨j,h1,h2⟩|h1|⟨h1,h2⟩
    ·exact Or.inl ⟨j,h1,Or.inl h2⟩
    ·exact Or.inl ⟨st.length,h1,Or.inr rfl⟩
    ·exact absurd rfl h2
   have cP:j7 (fun j=>N j\/j=st.length) nx t:=zU (hN.DV.resolve_left ht)
   have hT:lL M nx (fun j=>N j\/j=st.length) st.length S.length (t,t):=by
    refine⟨fun j hj=>?_,Or.inr cP,cP,fun _=>Or.inr QF,fun _=>QF,fun j hj=>?_,fun e e' j hj=>?_⟩
    ·rcases hj with hj|hj
     ·have:=hN.AG j hj;omega
     ·omega
    ·rcases hj with hj|rfl
     ·obtain⟨m,h1,h2⟩:=hN.cl j hj;exact⟨m,h1,h2.mono (fun s hs=>zU hs)⟩
     ·refine⟨_,hA,?_⟩;have h2:j7 (fun j=>N j\/j=st.length) nx nx.2:=Or.inr (Or.inl rfl)
      cases lz
      ·exact⟨fun _=>cP,fun _=>h2⟩
      ·exact⟨fun _=>h2,fun _=>cP⟩
    ·rcases hj with hj|rfl
     ·exact hN.es (hAE e) (Or.inl rfl) j hj
     ·exact hAE e
   have:=aaY (st:=S) lz hT (lL.refl M nx st.length) (c0:=st.length) (by omega) (Aa _) (Aa _) (Aa _) (by omega) (by rw[hE];exact fun j h1 h2=>CQ j (by omega) h2);rw[hE]at this;exact this
theorem BS.times{f:Bl}{c:Nat}(hf:BS f (4*c))(lo hi:Int)(lz:Bool)(h0:0<=lo)(h1:hi= -1\/lo<=hi):BS (ox f lo hi lz) (4*((if hi= -1 then lo+1 else hi).toNat*(c+1))):=by
 unfold ox;by_cases e:hi= -1
 ·simp only[e,if_true];refine((hf.nj lo.toNat).comp (hf.loop lz)).more ?_;have:(lo+1).toNat=lo.toNat+1:=by omega
  rw[this,Ci,D4 lo.toNat];have:lo.toNat*(4*c)=4*(lo.toNat*c):=by rw[Di]
  omega
 ·simp only[e,if_false];refine((hf.nj lo.toNat).comp (hf.oT lz (hi-lo).toNat).bs).more ?_;have hle:lo<=hi:=h1.resolve_left e;obtain⟨d,hd⟩:∃d,hi.toNat=lo.toNat+d:=⟨(hi-lo).toNat,by omega⟩
  have:(hi-lo).toNat=d:=by omega
  rw[this,hd,Ci,D4 lo.toNat,D4 d c,D4 d (4*c)];have:lo.toNat*(4*c)=4*(lo.toNat*c):=by rw[Di]
  have:d*(4*c)=4*(d*c):=by rw[Di]
  omega
mutual
theorem CT.AQ:∀C:CT,C.ok->0<=C.sz
 |.node k sp fo nt ed gr lo hi lz aJ,h=>by
  unfold CT.ok at h;obtain⟨h1,h2,h3,h5,h6⟩:=h;have hs:=CT.xD aJ h6;unfold CT.sz;by_cases k0:k=0\/k=1\/k=2
  ·rw[if_pos k0];omega
  ·rw[if_neg k0];by_cases k4:k=4
   ·rw[if_pos k4];have:=Bu.2 (h3 k4);omega
   ·rw[if_neg k4];by_cases k5:k=5
    ·rw[if_pos k5];have PC:=h5 k5;have:0<=(if hi= -1 then lo+1 else hi)*(CT.cW aJ+1):=Int.mul_nonneg (by split<;>omega) (by omega);omega
    ·rw[if_neg k5];omega
theorem CT.xD:∀cs:List CT,CT.de cs->0<=CT.cW cs
 | [],_=>by simp[CT.cW]
 |c::cs,h=>by
  unfold CT.de at h;have h1:=CT.AQ c h.1;have h2:=CT.xD cs h.2;unfold CT.cW;omega
end
theorem BS.mark(n:Int):BS (ft (iG n)) 2:=BS.tl _ (fun _=>Or.inr rfl) (fun _=>⟨rfl,rfl⟩)
theorem BS.vQ(n:Int):BS (ft (tC n)) 2:=BS.tl _ (fun _=>Or.inl rfl) (fun _=>⟨rfl,rfl⟩)
mutual
theorem pf:∀C:CT,C.ok->C.sz<=1000->BS (bQ C) (4*C.sz.toNat)
 |.node k sp fo nt ed gr lo hi lz aJ,h,hs=>by
  unfold CT.ok at h;obtain⟨h1,h2,h3,h5,h6⟩:=h;have hn:=CT.xD aJ h6;have tY:=Z6 aJ h6;have Ge:=TB aJ h6;have F8:=TA aJ h6;unfold CT.sz at hs⊢;unfold bQ;by_cases k0:k=0
  ·simp only[k0,if_true,true_or]at hs⊢;exact(BS.take sp fo nt).more (by omega)
  ·by_cases k1:k=1
   ·simp only[k1,if_true,true_or,or_true,Int.reduceEq,if_false]at hs⊢;exact(BS.vQ ed).more (by omega)
   ·by_cases k2:k=2
    ·simp only[k2,if_true,or_true,Int.reduceEq,if_false]at hs⊢;have hO:=tY (by omega) (h2 (Or.inl k2));by_cases g0:gr=0
     ·simp only[g0,if_true];exact hO.more (by omega)
     ·simp only[g0,if_false];refine((BS.mark (2*(gr-1))).comp (hO.comp (BS.mark (2*(gr-1)+1)))).more ?_;omega
    ·have Ud:¬(k=0\/k=1\/k=2):=(by omega);rw[if_neg Ud]at hs⊢;simp only[k0,k1,k2,if_false];by_cases k3:k=3
     ·simp only[k3,if_true,Int.reduceEq,if_false]at hs⊢;exact(Ge (by omega)).more (by omega)
     ·by_cases k4:k=4
      ·simp only[k4,if_true,Int.reduceEq,if_false]at hs⊢;have hp:=Bu.2 (h3 k4);exact(F8 (by omega) (h3 k4)).more (by omega)
      ·have k5:k=5:=(by omega);simp only[k5,if_true,Int.reduceEq,if_false]at hs⊢;have hb:=h5 k5;have hc:0<=(if hi= -1 then lo+1 else hi)/\(if hi= -1 then lo+1 else hi)<=21:=by split<;>omega
       generalize mr:(if hi= -1 then lo+1 else hi)=cc at*
       by_cases z:cc=0
       ·have b_:hi=0/\lo=0:=(by split at mr<;>omega);rw[z,Int.zero_mul]
        have e:ox (mS aJ) lo hi lz=fun st nx=>(st,nx):=by
         funext st nx
         unfold ox;rw[b_.1,b_.2];rfl
        have e':(fun st nx=>ox (mS aJ) lo hi lz st nx)=fun st nx=>(st,nx):=by rw[e]
        rw[e'];exact BS.id
       ·have hm:cc*(CT.cW aJ+1)<=1000:=by omega
        have jx:CT.cW aJ+1<=cc*(CT.cW aJ+1):=by
         have:=Dk (show 1<=cc by omega) (show 0<=CT.cW aJ+1 by omega);rw[Int.one_mul]at this;exact this
        have hO:=tY (by omega) (h2 (Or.inr k5));have ht:=BS.times hO lo hi lz hb.1 hb.2.2.2.2;rw[mr]at ht;refine ht.more ?_
        have:(cc*(CT.cW aJ+1)).toNat=cc.toNat*((CT.cW aJ).toNat+1):=by
         rw[Int.toNat_mul hc.1 (by omega)];congr 1;omega
        have e:(min (cc*(CT.cW aJ+1)) 1001).toNat=(cc*(CT.cW aJ+1)).toNat:=(by omega);rw[e,this];exact Aa _
theorem Z6:∀cs:List CT,CT.de cs->CT.cW cs<=1000->cs.length=1->BS (mS cs) (4*(CT.cW cs).toNat)
 | [],_,_,hl=>by simp at hl
 | [c],h,hs,_=>by
   unfold CT.de at h;simp only[CT.cW,Int.add_zero]at hs⊢;unfold mS;exact pf c h.1 hs
 |c::d::cs,h,hs,hl=>by simp at hl
theorem TB:∀cs:List CT,CT.de cs->CT.cW cs<=1000->BS (kL cs) (4*(CT.cW cs).toNat)
 | [],_,_=>by unfold kL;exact BS.id.more (by omega)
 |c::cs,h,hs=>by
  unfold CT.de at h;have h1:=CT.AQ c h.1;have h2:=CT.xD cs h.2;unfold CT.cW at hs⊢;unfold kL;refine((pf c h.1 (by omega)).comp (TB cs h.2 (by omega))).more ?_;omega
theorem TA:∀cs:List CT,CT.de cs->CT.cW cs<=1000->cs≠ []->BS (jh cs) (4*(CT.cW cs).toNat+2*(cs.length-1))
 | [],_,_,hl=>absurd rfl hl
 | [c],h,hs,_=>by
   unfold CT.de at h;simp only[CT.cW,Int.add_zero]at hs⊢;unfold jh;exact(pf c h.1 hs).more (by simp)
 |c::d::cs,h,hs,hl=>by
  have hc:CT.ok c/\CT.de (d::cs):=by unfold CT.de at h;exact h
  have h1:=CT.AQ c hc.1;have h2:=CT.xD (d::cs) hc.2;have yt:CT.sz c+CT.cW (d::cs)<=1000:=by unfold CT.cW at hs;exact hs
  have e:CT.cW (c::d::cs)=CT.sz c+CT.cW (d::cs):=by rw[CT.cW]
  rw[e];unfold jh;refine((pf c hc.1 (by omega)).aw (TA (d::cs) hc.2 (by omega) (by simp))).more ?_;simp only[A1];omega
end
open Go.Maps
structure Sv where
 k:Int
 sa:Option Addr
 sn:Nat
 sc:Nat
 ed:Int
 sl:Int
 nx:Int
 ot:Int
def Sv.cells(q:Sv):Array Value:=#[.int .i64 q.k,.slice q.sa q.sn q.sc,.int .i64 q.ed,.int .i64 q.sl,.int .i64 q.nx,.int .i64 q.ot]
def Sv.val(q:Sv):Value:=.agg q.cells
def jw:List Sv->List Value
 | []=>[]
 |q::qs=>q.cells.toList++jw qs
theorem Sv.FQ(q:Sv):q.cells.toList.length=6:=rfl
theorem abf(a b:List Sv):jw (a++b)=jw a++jw b:=by
 induction a with
 |nil=>rfl
 |cons q qs ih=>simp[jw,ih]
theorem Un(qs:List Sv)(i:Nat)(h:i<qs.length)(j:Nat)(hj:j<6):(jw qs)[i*6+j]? =(qs[i]).cells[j]? :=by
 induction qs generalizing i with
 |nil=>simp at h
 |cons q qs ih=>
  cases i with
  |zero=>
   simp only[jw,Ap];rw[Au (by rw[Sv.FQ];omega),show 0*6+j=j by omega];simp
  |succ i=>
   have:=ih i (by simpa using h);simp only[jw,Am];rw[Be (by rw[Sv.FQ];omega),Sv.FQ,show(i+1)*6+j-6=i*6+j by omega];exact this
theorem Sv.one(q:Sv):∀u∈q.cells.toList,u.oneCell'=true:=by
 intro u hu;simp[Sv.cells]at hu;rcases hu with rfl|rfl|rfl|rfl|rfl|rfl<;>rfl
structure gw(w:World)(lo hi:Nat)(s:Sv)(m:MS):Prop where
 k:s.k=m.aT
 ed:s.ed=m.kN
 sl:s.sl=m.slot
 nx:s.nx=m.next
 ot:s.ot=m.ch
 kr:0<=m.aT/\m.aT<=4
 set:m.aT=1->∃(S:bN) (bs:Nat),s.sn=S.length/\(S≠ []->s.sa=some ⟨bs,0,none⟩/\lo<=bs/\bs<hi)/\gF w bs S/\wk S m.sp m.fo m.nt/\eh S/\S.length<=6000
theorem gw.kept{s:Sv}{m:MS}(h:gw w lo hi s m)(k:I K w w')(hs:∀i,lo<=i->i<hi->¬K i)(hle:hi<=w.heap.size):gw w' lo hi s m:=
 ⟨h.k,h.ed,h.sl,h.nx,h.ot,h.kr,fun e=>by
   obtain⟨S,bs,a1,a2,a3,a4⟩:=h.set e;refine⟨S,bs,a1,a2,fun i aS=>?_,a4⟩;have aF:S≠ []:=by intro e;subst e;simp at aS
   obtain⟨_,b1,b2⟩:=a2 aF;exact⟨(k.cell (p:=⟨bs,i*2,none⟩) (by show bs<_;omega) (hs bs b1 b2)).trans (a3 i aS).1,(k.cell (p:=⟨bs,i*2+1,none⟩) (by show bs<_;omega) (hs bs b1 b2)).trans (a3 i aS).2⟩⟩
structure dH(w:World)(b lo hi:Nat)(v:Value)(st:List MS):Prop where
 ae:ay w b #[v] 92
 row:∃vs:List Sv,w.ownsRow (b+1) 96 6 v st.length (jw vs)/\vs.length=st.length/\∀i,(h:i<vs.length)->(h':i<st.length)->gw w lo hi vs[i] st[i]
 fO:hi<=b
 cB:st.length<=10000
def Own(b:Nat)(v:Value):Nat->Prop:=fun i=>i=b\/v.ownBlock=some i
theorem dH.slice{st:List MS}(h:dH w b lo hi v st):∃ao c,v=.slice ao st.length c:=by
 obtain⟨vs,h1,_⟩:=h.row;exact dY h1
theorem dH.block{st:List MS}(h:dH w b lo hi v st)(aS:v.ownBlock=some i):b+1<=i/\i<w.heap.size:=by
 obtain⟨vs,h1,_⟩:=h.row;exact cA h1 aS
theorem dH.aN{st:List MS}(h:dH w b lo hi v st)(aS:Own b v i):b<=i/\i<w.heap.size:=by
 rcases aS with rfl|aS
 ·exact⟨Aa _,h.ae.lt⟩
 ·have:=h.block aS;omega
theorem dH.kept{st:List MS}(h:dH w b lo hi v st)(k:I K w w')(hK:∀i,K i->¬Own b v i/\(i<lo\/hi<=i)):dH w' b lo hi v st where
 ae:=h.ae.kept k (fun hx=>(hK b hx).1 (Or.inl rfl))
 row:=by
  obtain⟨vs,h1,h2,h3⟩:=h.row;refine⟨vs,dh h1 k (fun i aS hx=>(hK i hx).1 (Or.inr aS)),h2,fun i a1 a2=>(h3 i a1 a2).kept k (fun j j1 j2 hx=>by have:=(hK j hx).2;omega) (by have:=h.fO;have:=h.ae.lt;omega)⟩
 fO:=h.fO
 cB:=h.cB
theorem dH.new{st:List MS}(h:dH w b lo hi v st)(k:I aq w w'):dH w' b lo hi v st:=h.kept k (fun i hx=>hx.elim)
structure eM(b:Nat)(w w':World)(v v':Value):Prop where
 kept:I (Own b v) w w'
 ae:∀i,v'.ownBlock=some i->v.ownBlock=some i\/w.heap.size<=i
theorem eM.refl(b:Nat)(w:World)(v:Value):eM b w w v v:=⟨I.refl _ _,fun i h=>Or.inl h⟩
theorem eM.trans{v2:Value}(h:eM b w w1 v v1)(h':eM b w1 w2 v1 v2):eM b w w2 v v2 where
 kept:=h.kept.bY h'.kept (fun i hi hx=>by
  rcases hx with rfl|hx
  ·exact Or.inl rfl
  ·rcases h.ae i hx with h1|h1
   ·exact Or.inr h1
   ·omega)
 ae i hi:=by
  have hs:=h.kept.size;rcases h'.ae i hi with h1|h1
  ·exact h.ae i h1
  ·right;omega
theorem eM.new(h:eM b w w1 v v1)(k:I aq w1 w2):eM b w w2 v v1:=⟨h.kept.bY k (fun i _ hx=>hx.elim),h.ae⟩
theorem eM.alloc(h:eM b w w1 v v1)(o:Obj):eM b w (w1.alloc o) v v1:=⟨h.kept.alloc o,h.ae⟩
theorem eM.eD(h:eM b w w' v v'){c:Nat}(hc:c<w.heap.size)(hn:¬Own b v c):¬Own b v' c:=by
 intro hx;rcases hx with rfl|hx
 ·exact hn (Or.inl rfl)
 ·rcases h.ae c hx with h1|h1
  ·exact hn (Or.inr h1)
  ·omega
theorem eM.cells(h:eM b w w' v v'){c:Nat}{cs:Array Value}{t:TypeId}(hB:ay w c cs t)(hn:¬Own b v c):ay w' c cs t:=hB.kept h.kept hn
theorem Tryz.acP:(prog.info? 96).map (fun i=>(i.zero,i.size,i.bytes))=some (some (.agg #[.int .i64 0,.slice none 0 0,.int .i64 0,.int .i64 0,.int .i64 0,.int .i64 0]),6,64):=by kernel_rfl
theorem E6{P:Program}{ops:Array Oper}{o:Oper}{a:Act}{K:Act->World->Prop}{Q:Exit->Act->World->Prop}{E:Prop}
 (hg:o.guard=none)(s x:Operand)(t:TypeId)(bS:o.op=.call {callee:=.builtin .append,args:=#[s,x],argTypes:=#[t,t]})
 (base:Nat)(e:TypeId)(i:TypeInfo)(z:Value)(size bytes:Nat)(ht:P.underlying t=some (.slice e))(hi:P.info? e=some i)(hz:i.zero=some z)(zD:i.size=size)(hby:i.bytes=bytes)(hzs:z.cells.size=size)(bm:0<size)
 (v:Value)(n:Nat)(xs:List Value)(hs:a.eval s=v)(a8:w.ownsRow base e size v n xs)
 (ad:Addr)(m c:Nat)(news:List Value)(hx:a.eval x=.slice (some ad) m c)(hl:news.length=m*size)(Jc:∀j u,news[j]? =some u->w.cell? (ad.add j)=some u)(h1:∀u∈news,u.oneCell'=true)
 (h63:n+m<=maxLen)(ai3:(n+m)*bytes<=140737488355328)(abJ:base<=w.heap.size)
 (hK:∀v' w',w'.ownsRow base e size v' (n+m) (xs++news)->w.grownBy w' v.ownBlock->(v'.ownBlock=v.ownBlock\/v'.ownBlock=some w.heap.size)->K (a.put o.dst v') w'):
 if Region.wanted o (yielded ops a.tmps)=true then Oper.wp P o a w K Q else E:=by
 have hw:Region.wanted o (yielded ops a.tmps)=true:=by simp[Region.wanted,hg]
 rw[if_pos hw];obtain⟨v',w',hr,h2,h3,h4,h5⟩:=run_append_own_at (P:=P) w base t o.type e i z size bytes ht hi hz zD hby hzs bm v n xs a8 ad m c news hl Jc h1 h63 ai3 abJ;unfold Oper.wp;simp[execOp,bS,resolve,invoke,builtin,hs,hx,hr,Result.andThen];exact hK v' w' h2 h3 h5
theorem dH.dn{W w7:World}{ao c n:Nat}{st:List MS}(h:dH w b lo hi v st){s:Sv}{m:MS}(hs:gw w lo hi s m)(dg:st.length<10000){vs:List Sv}(dS:w.ownsRow (b+1) 96 6 v st.length (jw vs))(dA:vs.length=st.length)
 (uk:∀i,(h:i<vs.length)->(h':i<st.length)->gw w lo hi vs[i] st[i])(k0:I aq w W)
 (bE:w7.ownsRow (b+1) 96 6 v' (st.length+1) (jw vs++s.cells.toList))(aX:W.grownBy w7 v.ownBlock)(bH:v'.ownBlock=v.ownBlock\/v'.ownBlock=some W.heap.size):
 ay w7 b #[v] 92/\dH (w7.setCell ⟨b,0,none⟩ v') b lo hi v' (st++[m])/\eM b w (w7.setCell ⟨b,0,none⟩ v') v v':=by
 have ar:=h.ae.lt;have V5:=k0.size;have k7:I (fun i=>v.ownBlock=some i) w w7:=(k0.mono (fun i hx=>hx.elim)).dn aX (fun j hj=>Or.inl hj);have sU:v.ownBlock≠some b:=fun e=>by have:=cA dS e;omega
 have b7:ay w7 b #[v] 92:=h.ae.kept k7 sU;have aqP:=k7.size
 have qK:∀i,v'.ownBlock=some i->v.ownBlock=some i\/w.heap.size<=i:=by
  intro i aS;rcases bH with hl|hl
  ·exact Or.inl (hl▸aS)
  ·rw[hl]at aS;cases aS;right;omega
 have QG:v'.ownBlock≠some b:=fun e=>by
  rcases qK b e with h1|h1
  ·exact sU h1
  ·omega
 have b8:ay (w7.setCell ⟨b,0,none⟩ v') b #[v'] 92:=b7.setCell 0 v';have k8:I (Own b v) w (w7.setCell ⟨b,0,none⟩ v'):=I.setCell (S:=Own b v) (k7.mono (S':=Own b v) (fun i aS=>Or.inr aS)) (p:=⟨b,0,none⟩) (Or.inl (Or.inl rfl)) _
 have o8:(w7.setCell ⟨b,0,none⟩ v').ownsRow (b+1) 96 6 v' (st++[m]).length (jw (vs++[s])):=by
  have h1:(jw (vs++[s]))=jw vs++s.cells.toList:=by rw[abf];simp[jw]
  rw[h1,Ao];exact dh bE ((I.refl (fun i=>i=b) w7).setCell (p:=⟨b,0,none⟩) (Or.inl rfl) v') (fun i aS e=>QG (e▸aS))
 have fO:=h.fO;have ab9:∀i,lo<=i->i<hi->¬Own b v i:=fun i h1 h2 hx=>by have:=h.aN hx;omega
 refine⟨b7,?_,⟨k8,qK⟩⟩;refine⟨b8,⟨vs++[s],o8,by simp[dA],fun i h1 h2=>?_⟩,fO,by simp;omega⟩;by_cases lW:i<st.length
 ·have e1:(vs++[s])[i]=vs[i]'(by omega):=A6 _;have e2:(st++[m])[i]=st[i]:=A6 _;rw[e1,e2];exact(uk i (by omega) lW).kept k8 ab9 (by omega)
 ·have e:i=st.length:=by simp at h2;omega
  subst e;have e1:(vs++[s])[st.length]=s:=by simp[<-dA]
  have e2:(st++[m])[st.length]=m:=by simp
  rw[e1,e2];exact hs.kept k8 ab9 (by omega)
theorem afe(q:Sv)(j:Nat)(u:Value)(h:q.cells.toList[j]? =some u):(w.alloc (.cells q.cells 96)).cell? (Addr.add ⟨w.heap.size,0,none⟩ j)=some u:=vE w q.cells 96 j u h
theorem Ik{st:List MS}(h:dH w b lo hi v st){s:Sv}{m:MS}(hs:gw w lo hi s m)(dg:st.length<10000):
 Calls prog 29 #[.pointer (some ⟨b,0,none⟩),Sv.val s] w fun e w'=>e=.returned (.int .i64 st.length)/\∃v',dH w' b lo hi v' (st++[m])/\eM b w w' v v':=by
 obtain⟨i0,b_,cE,cI,cH⟩:=A7 Tryz.acP;obtain⟨ao,c,hv⟩:=h.slice;have ar:=h.ae.lt;obtain⟨vs,dS,dA,uk⟩:=h.row;have c0:w.cell? ⟨b,0,none⟩=some v:=h.ae.cell 0;have f0:=h.ae.frozen 0;have HR:Hid (∀W,I aq w W->W.ownsRow (b+1) 96 6 v st.length (jw vs)):=fun W k=>dh dS k (fun i _ hx=>hx)
 have GR:Hid (∀W w7 v',I aq w W->w7.ownsRow (b+1) 96 6 v' (st.length+1) (jw vs++s.cells.toList)->W.grownBy w7 v.ownBlock->(v'.ownBlock=v.ownBlock\/v'.ownBlock=some W.heap.size)->ay w7 b #[v] 92/\dH (w7.setCell ⟨b,0,none⟩ v') b lo hi v' (st++[m])/\eM b w (w7.setCell ⟨b,0,none⟩ v') v v'):=
  fun W w7 v' k h1 h2 h3=>h.dn (ao:=0) (c:=0) (n:=0) hs dg dS dA uk k h1 h2 h3
 have NW:Hid (∀j u,s.cells.toList[j]? =some u->(((w.alloc (.cells s.cells 96)).alloc (.cells s.cells 96)).drew).cell? (Addr.add ⟨w.heap.size+1,0,none⟩ j)=some u):=by
  intro j u hu;have:=afe (w:=w.alloc (.cells s.cells 96)) s j u hu;simpa using this
 clear h hs uk dS;subst hv;simp only[Sv.val,Sv.cells];go_in;go_wp2_with fail;go_region_law (refine E6 rfl (.tmp 9) (.tmp 11) 50 rfl (b+1) 96 i0 _ 6 64 underlying50 b_ cE cI cH rfl (by decide) _ _ _ rfl (HR.out _ (by repeat first|exact I.refl _ _|apply I.alloc|apply I.drew|apply I.drewN)) ⟨w.heap.size+1,0,none⟩ 1 1 s.cells.toList rfl rfl NW.out s.one (by unfold maxLen;omega) (by omega) (by simp;omega) ?_;intro v' w7 ho hg hl;obtain⟨rA,c',rfl⟩:=dY ho;obtain⟨b7,fS,bt⟩:=GR.out _ _ _ (by repeat first|exact I.refl _ _|apply I.alloc|apply I.drew|apply I.drewN) ho hg hl;have c7:w7.cell? ⟨b,0,none⟩=some (.slice ao st.length c):=b7.cell 0;have f7:w7.frozen? ⟨b,0,none⟩=false:=b7.frozen 0)
 all_goals
  clear HR GR NW;go_wp2_with fail;go_ret;exact⟨rfl,_,fS,bt⟩
end Go.Proofs.YtmbpfhlnifdhgaaGreatDoor
