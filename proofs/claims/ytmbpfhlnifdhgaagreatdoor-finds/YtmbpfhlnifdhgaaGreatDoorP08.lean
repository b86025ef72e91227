/- The reference's tree -/
import Derived.Test.YtmbpfhlnifdhgaaGreatDoorP07
set_option linter.unusedVariables false
set_option linter.unusedSimpArgs false
set_option maxRecDepth 100000
set_option maxHeartbeats 8000000
namespace Go.Proofs.YtmbpfhlnifdhgaaGreatDoor
open Go.Proofs.Tryz
open Go.RowKit Go.Maps
variable {cs:Array Value} {c:CI} {E:EG} {e:Ending} {G G' G1 G2:GH} {ax:Int} {nl:List (List UInt8)} {S S' Z:List CI} {gs dc:List Int} {Ps db ts gY:List Nat} {rs:List RT} {xs zs:List Value} {M M' b base cg rH ct gb gi hi i i' k lb lc lo nb tb:Nat} {p:Nat×List Int} {P:Nat->Nat} {X:Nat->Prop} {r:Option (Nat×List Int)} {ag rz at_:Option Addr} {g:RG} {st:RS} {n:RT} {t:TG} {x:TX} {α:Type} {v v' vc vk vm vn:Value} {w w' w1 w2:World}
theorem ag9(w:World)(q:Int)(h:97<=q/\q<=122):(convert 175 9 (.slice (some ⟨w.heap.size,0,none⟩) 1 1)).run prog (w.alloc (.cells #[.int .u8 q] 5))=.ok (.string ⟨#[UInt8.ofNat q.toNat]⟩) (w.alloc (.cells #[.int .u8 q] 5)):=by
 have e:((UInt8.ofNat q.toNat).toNat:Int)=q:=by
  rw[UInt8.toNat_ofNat'];omega
 have:=run_convert_bytes_back (P:=prog) (w.alloc (.cells #[.int .u8 q] 5)) 175 9 5 ⟨w.heap.size,0,none⟩ 1 [UInt8.ofNat q.toNat] underlying175 underlying5 underlying9 (fun j hj=>by
  have:j=0:=by simp at hj;omega
  subst this;rw[Ap,e];exact Cc w (.int .u8 q) 5 0 _ rfl)
 simpa using this
theorem ahb(g:RG)(m i:Nat)(q:Int)(h:j_ g m (i+1)=j_ g m i++[UInt8.ofNat q.toNat]):(⟨(j_ g m i).toArray⟩++⟨#[UInt8.ofNat q.toNat]⟩:ByteArray)=⟨(j_ g m (i+1)).toArray⟩:=by
 apply ByteArray.ext
 rw[ByteArray.data_append,h];simp
theorem ala{ty n:Nat}(h:w.ownsRow base ty 1 v n xs)(hn:0<n):∃b cap,v=.slice (some ⟨b,0,none⟩) n cap/\∀j x,j<n->xs[j]? =some x->w.cell? ⟨b,j,none⟩=some x:=by
 rcases h.2 with⟨rfl,h0⟩|⟨g,cap,aU,rfl,a1,a2,a3,a4,a5,a6⟩
 ·omega
 ·refine⟨g,cap,rfl,fun j x hj hx=>?_⟩;rw[<-a6,Al (by omega)]at hx;simp only[World.cell?,a2];simpa using hx
theorem al_{s0:RS}(hf:(jS g s0).au.form=none):∃e,s0.next<e/\e<g.rs.length/\(∀j,s0.next<=j->j<e->ak jc (g.rs.getD j (-1))=true)/\g.rs.getD e (-1)=62/\
 jS g s0=if s0.names.any (fun p=>p.1==j_ g s0.next e)then({s0 with next:=e+1}:RS).bG 6 (g.ps.getD s0.next 0)else{s0 with next:=e+1,names:=(j_ g s0.next e,s0.aC)::s0.names}:=by
 unfold jS at hf⊢;obtain⟨n1,n2,n3⟩:=jE hf;rw[n3];rw[ael,Xl]at n2;obtain⟨l1,l2,l3⟩:=jE n2;rw[l3]at n1⊢;have hE:=aef g s0.next (g.rs.length+9) {s0 with next:=s0.next+1}
 have qI:=aed g s0.next (g.rs.length+9) {s0 with next:=s0.next+1}
 have ar:=fj l1;have ic:=Xm g s0.next (g.rs.length+9) {s0 with next:=s0.next+1} (by simp;omega)
 generalize(fB g s0.next (g.rs.length+9) {s0 with next:=s0.next+1}).next=e at hE qI ic
 rw[hE]at n1⊢;simp only at ic qI n1
 have hl:∀j,s0.next<=j->j<e->ak jc (g.rs.getD j (-1))=true:=by
  intro j h1 h2;by_cases hj:j=s0.next
  ·subst hj;exact l1
  ·exact qI j (by omega) h2
 have UN:g.rs.getD e (-1)=62:=by
  have:aa g (jd g s0.next {s0 with next:=e})=g.rs.getD e (-1):=by unfold aa;rw[Nz]
  rw[this,show DZ=[62]from rfl,kD]at n1;simpa using n1
 have he:e<g.rs.length:=by
  apply Bz
  intro hn;rw[List.getD,Bd (by omega)]at UN;simp at UN
 have hx:AH ((g.rs.take e).drop s0.next)=j_ g s0.next e:=by
  refine ano _ (fun r hr=>?_);obtain⟨j,hj,rfl⟩:=List.mem_iff_getElem.1 hr;have ko:s0.next+j<e:=by simp at hj;omega
  have:=hl (s0.next+j) (by omega) ko;rw[List.getD,Ab (by omega)]at this;simp only[List.getElem_drop,List.getElem_take];exact Rh this
 refine⟨e,by omega,he,hl,UN,?_⟩;unfold jd;simp only;rw[hx];split<;>rfl
theorem agZ(hA:yP g k)(hT:bc w t g st ax vn nl)(ar:st.next<t.l.length)(rX:g.rs.length-st.next<=k)
 (hq:(aa g {st with next:=st.next+1}==63)=true)(hr:(aa g {st with next:=st.next+2}==60)=true)(hf:(jr g (aE g k) {st with next:=st.next+1}).1.au.form=none):
 Calls prog 88 #[.pointer (some ⟨t.b,0,none⟩)] w (gP w t g ax vn (jr g (aE g k) {st with next:=st.next+1}) (pK g (fe g k) ax {st with next:=st.next+1})):=by
 have hl:=hT.len;have oG:=hT.nZ;have oM:=hT.gR;obtain⟨i0,b_,cE,cI,cH⟩:=A7 Tryz.QO
 have oI:dy g {st with next:=st.next+1}=jS g (⟨st.next+3,st.au,st.aC+1,st.names⟩:RS):=by
  unfold dy;rw[show ak dG (aa g {st with next:=st.next+1})=(aa g {st with next:=st.next+1}==63)from kD 63 _,hq];simp only[Dv,if_false];rw[show ak pH (aa g {st with next:=st.next+2})=(aa g {st with next:=st.next+2}==60)from kD 60 _,hr];rfl
 obtain⟨RX,PX⟩:∃RX,fe g k ax (jS g (⟨st.next+3,st.au,st.aC+1,st.names⟩:RS))=RX:=⟨_,rfl⟩
 have HR:Hid (pK g (fe g k) ax {st with next:=st.next+1}=.node fi [] false false [RX] ((nl.length:Int)+1) 0 0 false):=by
  show _=_
  unfold pK;rw[if_neg (by rw[vB,hq];simp),if_pos (by show ak pH (aa g {st with next:=st.next+2})=true;rw[Ai.1 hr];decide),oI,PX,hT.l8.1]
 unfold jr at hf⊢;rw[oI]at hf⊢;clear oI;obtain⟨a1,a2,a3⟩:=jE hf;rw[a3];clear a3 hf;obtain⟨e,e1,e2,e3,e4,e5⟩:=al_ (EO g k _ a2);simp only at e1 e3 e5;obtain⟨X,hX⟩:∃X,aE g k (jS g (⟨st.next+3,st.au,st.aC+1,st.names⟩:RS))=X:=⟨_,rfl⟩
 rw[hX]at a1 a2⊢
 have MK:(j_ g (st.next+3) e)≠ []:=by
  intro h;have:=aao g (st.next+3) e (by omega);rw[h]at this;simp at this;omega
 have CU:=hT.l8.2.1 (j_ g (st.next+3) e) MK;rw[e5,CU]at hX PX
 have HS:Hid (aE g k (if nl.any (fun y=>y==(j_ g (st.next+3) e))then{mG (⟨e+1,st.au,st.aC,st.names⟩:RS) nl (j_ g (st.next+3) e) (g.ps.getD (st.next+3) 0)with aC:=st.aC+1}else{mG (⟨e+1,st.au,st.aC,st.names⟩:RS) nl (j_ g (st.next+3) e) (g.ps.getD (st.next+3) 0)with aC:=st.aC+1,names:=((j_ g (st.next+3) e),st.aC+1)::st.names})=X/\fe g k ax (if nl.any (fun y=>y==(j_ g (st.next+3) e))then{mG (⟨e+1,st.au,st.aC,st.names⟩:RS) nl (j_ g (st.next+3) e) (g.ps.getD (st.next+3) 0)with aC:=st.aC+1}else{mG (⟨e+1,st.au,st.aC,st.names⟩:RS) nl (j_ g (st.next+3) e) (g.ps.getD (st.next+3) 0)with aC:=st.aC+1,names:=((j_ g (st.next+3) e),st.aC+1)::st.names})=RX):=by
  show _/\_
  rw[<-hX,<-PX];constructor
  ·congr 1
   unfold mG;split<;>rfl
  ·congr 1
   unfold mG;split<;>rfl
 clear hX e5 CU PX;have c1:w.cell? ⟨t.b,1,none⟩=some (.int .i64 st.next):=hT.ae.cell 1;have f1:=hT.ae.frozen 1;have km:=hT.aC;go_in;go_wp2_with fail;have h1:bc ((w.setCell ⟨t.b,1,none⟩ (.int .i64 ((st.next:Int)+1))).alloc (uV fi)) t g {st with next:=st.next+1} ax vn nl:=(hT.step ar).nil ((I.refl _ _).alloc _);have k1:I (fun i=>i=t.b\/vn.ownBlock=some i) w ((w.setCell ⟨t.b,1,none⟩ (.int .i64 ((st.next:Int)+1))).alloc (uV fi)):=((dr (w:=w) (t:=t) 1 (.int .i64 ((st.next:Int)+1))).mono (fun i hi=>Or.inl hi)).alloc _;have b1:ay ((w.setCell ⟨t.b,1,none⟩ (.int .i64 ((st.next:Int)+1))).alloc (uV fi)) w.heap.size (gJ fi (.slice none 0 0) false false (.slice none 0 0) 0 0 0 false) 114:=ay.jF _ _ (by rw[fx]);refine(dI h1).mono ?_;rintro e0 w2 ⟨rfl,h2,aG⟩;have k2:=k1.trans (aG.mono (fun i hi=>Or.inl hi));have b2:=b1.kept aG (by omega);have s2:=b2.lt;clear h1 k1 b1 aG c1 f1;have fK:∀i,vn.ownBlock=some i->i<w.heap.size:=fun i hi=>(cA hT.names hi).2
 have mA:nl.length<=300:=by have:=hT.l8.1;have:=hT.next;omega
 have zg:w2.cell? ⟨t.b,1,none⟩=some (.int .i64 ((st.next:Int)+1)):=by have:=h2.ae.cell 1;simpa using this
 have f21:=h2.ae.frozen 1
 have h3:bc (w2.setCell ⟨t.b,1,none⟩ (.int .i64 ((st.next:Int)+2))) t g {st with next:=st.next+2} ax vn nl:=by
  have:=h2.oZ (st.next+2) (by omega) (by simp);simpa using this
 have b3:=b2.dD (p:=⟨t.b,1,none⟩) (show w.heap.size≠t.b by omega) (.int .i64 ((st.next:Int)+2));have k3:=k2.trans ((dr (w:=w2) (t:=t) 1 (.int .i64 ((st.next:Int)+2))).mono (fun i hi=>Or.inl hi));go_wp2_with fail;refine(dI h3).mono ?_;rintro e0 w4 ⟨rfl,h4,cQ⟩;have b4:=b3.kept cQ (by omega);have k4:=k3.trans (cQ.mono (fun i hi=>Or.inl hi));clear zg f21 h3 b3 k3 cQ h2 b2 k2;have U6:=Ai.1 hr;have n58:(aa g {st with next:=st.next+2}==58)=false:=by rw[U6];rfl
 have n105:(aa g {st with next:=st.next+2}==105)=false:=by rw[U6];rfl
 clear U6;have K_:w4.cell? ⟨t.b,1,none⟩=some (.int .i64 ((st.next:Int)+2)):=by have:=h4.ae.cell 1;simpa using this
 have f41:=h4.ae.frozen 1;have aF:t.l≠ []:=by intro h;have h0:t.l.length=0:=(by rw[h];rfl);omega
 go_wp2_with fail
 obtain⟨w5,DU⟩:∃w5,w5=w4.setCell ⟨t.b,1,none⟩ (.int .i64 ((st.next:Int)+2+1)):=⟨_,rfl⟩
 rw[<-DU];obtain⟨m,hm⟩:∃m,m=st.next+3:=⟨_,rfl⟩
 have h5:bc w5 t g ⟨m,st.au,st.aC,st.names⟩ ax vn nl:=by
  have:=h4.oZ (st.next+3) (by omega) (by simp);rw[DU,hm,show((st.next:Int)+2+1)=((st.next+3:Nat):Int)from by omega];exact this
 have b5:ay w5 w.heap.size (gJ fi (.slice none 0 0) false false (.slice none 0 0) 0 0 0 false) 114:=by rw[DU];exact b4.dD (p:=⟨t.b,1,none⟩) (show w.heap.size≠t.b by omega) (.int .i64 ((st.next:Int)+2+1))
 have k5:I (fun i=>i=t.b\/vn.ownBlock=some i) w w5:=by rw[DU];exact k4.trans ((dr (w:=w4) (t:=t) 1 (.int .i64 ((st.next:Int)+2+1))).mono (fun i hi=>Or.inl hi))
 rw[<-hm]at e1 e3 MK HS;have DH:st.next+3<=m:=by omega
 have DI:m<=st.next+3:=by omega
 clear DU hm h4 b4 k4 K_ f41;obtain⟨eu,apZ,ap0⟩:=h5.gl.isSome aF;have TT:w5.cell? ⟨t.b,0,none⟩=some (.slice (some ⟨t.bl,0,none⟩) t.l.length t.cap):=by rw[<-eu];exact h5.ae.cell 0
 have La:w5.cell? ⟨t.b,1,none⟩=some (.int .i64 m):=h5.ae.cell 1;have mU:=(h5.gl.cells m (by omega)).2;rw[<-h5.ps m (by omega)]at mU;have qM:0<=g.ps.getD m 0/\g.ps.getD m 0<=300:=h5.pr m;have Qo:(m:Int)<(t.l.length:Int):=by omega
 obtain⟨pl,s_⟩:∃pl,pl=g.ps.getD m 0:=⟨_,rfl⟩
 rw[<-s_]at mU qM HS;clear s_ eu;go_region;all_goals go_wp2_with fail
 have h6:=h5.nil (I.refl aq w5).drew;have b6:=ay.drew b5;have k6:=k5.drew;clear h5 b5 k5 TT La mU;go_loopg [5] (e-m) (fun kk v wr=>∃i,v=.string ⟨(j_ g m i).toArray⟩/\bc wr t g ⟨i,st.au,st.aC,st.names⟩ ax vn nl/\ay wr w.heap.size (gJ fi (.slice none 0 0) false false (.slice none 0 0) 0 0 0 false) 114/\I (fun i=>i=t.b\/vn.ownBlock=some i) w wr/\kk=e-i/\m<=i/\i<=e)
 case atStart=>exact⟨m,by rw[ag_],h6,b6,k6,rfl,Aa _,by omega⟩
 case round=>
  obtain⟨i,rfl,VU,IU,bU,rfl,Mf,uf⟩:=hrel;clear h6 b6 k6;by_cases hi:i<e
  ·have ab4:=Rh (e3 i Mf hi);have qN:aa g ⟨i,st.au,st.aC,st.names⟩=g.rs.getD i (-1):=rfl;rw[<-qN]at ab4;have aiX:(aa g ⟨i,st.au,st.aC,st.names⟩ !=62)=true:=Eh.2 (by omega);have gj:=aao g m i (by omega);have hsu:=aha g m i Mf (by omega);rw[<-qN]at hsu;generalize QA:aa g ⟨i,st.au,st.aC,st.names⟩=q at*;have HQ:Hid (aa g ⟨i,st.au,st.aC,st.names⟩=q):=QA;clear qN QA;go_wp2_with fail;refine(dI VU).mono ?_;rintro e0 w7 ⟨rfl,h7,fA⟩;rw[HQ.out];go_wp2_with fail;refine(dI h7).mono ?_;rintro e0 w8 ⟨rfl,h8,ly⟩;rw[HQ.out];have FL:w8.cell? ⟨t.b,1,none⟩=some (.int .i64 i):=h8.ae.cell 1;have f81:=h8.ae.frozen 1;have aqT:=h8.gR;have CY:=ag9 w8 q ab4;go_wp2_with fail;go_roundg (e-(i+1))
   case measure=>omega
   case rel=>exact⟨i+1,by rw[ahb g m i q hsu],(h8.step (show i<_ by omega)).nil ((I.refl _ _).alloc _),((IU.kept (fA.trans ly) (by omega)).dD (p:=⟨t.b,1,none⟩) (show w.heap.size≠t.b by omega) _).alloc _,(bU.trans (((fA.trans ly).trans (dr 1 _)).mono (fun i hi=>Or.inl hi))).alloc _,rfl,by omega,by omega⟩
  ·have Vr:i=e:=(by omega);have ta:bc wr t g ⟨e,st.au,st.aC,st.names⟩ ax vn nl:=by rw[<-Vr];exact VU
   rw[Vr];clear VU Vr Mf uf hi;have aiX:(aa g ⟨e,st.au,st.aC,st.names⟩ !=62)=false:=by rw[show aa g ⟨e,st.au,st.aC,st.names⟩=62 from e4];rfl
   obtain⟨x,hx⟩:∃x,x=j_ g m e:=⟨_,rfl⟩
   rw[<-hx]at MK HS⊢;clear hx;go_wp2_with fail;refine(dI ta).mono ?_;rintro e0 w7 ⟨rfl,h7,fA⟩;have Ir:w7.cell? ⟨t.b,1,none⟩=some (.int .i64 e):=h7.ae.cell 1;have f71:=h7.ae.frozen 1;have hel:e<=300:=(by omega);have h8:=h7.step (show e<_ by omega);have b8:=(IU.kept fA (by omega)).dD (p:=⟨t.b,1,none⟩) (show w.heap.size≠t.b by omega) (.int .i64 ((e:Int)+1));have k8:=bU.trans ((fA.trans (dr (w:=w7) (t:=t) 1 (.int .i64 ((e:Int)+1)))).mono (fun i hi=>Or.inl hi));go_wp2_with fail;clear Ir f71 ta h7 fA bU IU;go_loopg [8] nl.length (fun kk v wr=>∃j:Nat,v=.int .i64 j/\bc wr t g (mG ⟨e+1,st.au,st.aC,st.names⟩ (nl.take j) x pl) ax vn nl/\ay wr w.heap.size (gJ fi (.slice none 0 0) false false (.slice none 0 0) 0 0 0 false) 114/\I (fun i=>i=t.b\/vn.ownBlock=some i) w wr/\kk=nl.length-j/\j<=nl.length)
   case atStart=>exact⟨0,rfl,h8,b8,k8,rfl,by omega⟩
   case round=>
    obtain⟨j,rfl,qj,zv,my,rfl,rQ⟩:=hrel;clear h8 b8 k8;obtain⟨sj,pC⟩:∃sj,sj=mG ⟨e+1,st.au,st.aC,st.names⟩ (nl.take j) x pl:=⟨_,rfl⟩
    rw[<-pC]at qj;by_cases hj:j<nl.length
    ·obtain⟨bn,cap,QG,qe⟩:=ala qj.names (by omega);have cj:=qe j (.string ⟨(nl[j]).toArray⟩) hj (by simp[Ab hj]);have c93:wr.cell? ⟨t.b,3,none⟩=some (.slice (some ⟨bn,0,none⟩) nl.length cap):=by rw[<-QG];exact qj.ae.cell 3
     have c96:wr.cell? ⟨t.b,6,none⟩=some (.int .i64 (jR sj.au.kX)):=qj.ae.cell 6;have f96:=qj.ae.frozen 6;have Qj:(j:Int)<(nl.length:Int):=(by omega);clear qe QG;generalize hy:nl[j]=y at*;have rY:nl.take (j+1)=nl.take j++[y]:=by rw[Cb hj,hy]
     cases hc:(y==x)
     ·have HN:Hid (mG ⟨e+1,st.au,st.aC,st.names⟩ (nl.take (j+1)) x pl=sj):=by show _=_;rw[rY,ak8 _ _ _ _ _ hc,pC]
      clear pC;go_wp2_with fail;go_roundg (nl.length-(j+1))
      case measure=>omega
      case rel=>exact⟨j+1,by simp,by rw[HN.out];exact qj,zv,my,rfl,by omega⟩
     ·have HN:Hid (mG ⟨e+1,st.au,st.aC,st.names⟩ (nl.take (j+1)) x pl=sj.bG 6 pl):=by show _=_;rw[rY,ak7 _ _ _ _ _ hc,pC]
      clear pC
      cases ui:sj.au.kX with
      |none=>
       rw[ui,show jR none= -1 from rfl]at c96;have gy:=qj.anK pl qM.1 ui;go_wp2_with fail;go_roundg (nl.length-(j+1))
       case measure=>omega
       case rel=>exact⟨j+1,by simp,by rw[HN.out];exact gy,zv.dD (p:=⟨t.b,6,none⟩) (show w.heap.size≠t.b by omega) _,my.trans ((dr 6 _).mono (fun i hi=>Or.inl hi)),rfl,by omega⟩
      |some pq=>
       have pB:¬pq<0:=by have:=qj.mj.2.2 pq ui;omega
       rw[ui,show jR (some pq)=pq from rfl]at c96;have gy:bc wr t g (sj.bG 6 pl) ax vn nl:=by rw[adt pl (by rw[ui];simp)];exact qj
       go_wp2_with fail
       go_roundg (nl.length-(j+1))
       case measure=>omega
       case rel=>exact⟨j+1,by simp,by rw[HN.out];exact gy,zv,my,rfl,by omega⟩
    ·have vq:j=nl.length:=(by omega);have rY:nl.take j=nl:=by rw[vq];exact Ce
     rw[rY]at pC
     have nW:∃sq:RS,sq.next=sj.next/\sq.au=sj.au/\tK sq (nl++[x])/\sq.aC<=sq.next/\aE g k sq=X/\fe g k ax sq=RX:=by
      have hg0:sj.aC=st.aC:=(by rw[pC,ak6]);have Qu:sj.next=e+1:=(by rw[pC,WT]);have wU:sj.names=st.names:=by rw[pC];unfold mG;split<;>rfl
      have Fp:=HS.out;rw[<-pC]at Fp
      cases CU:nl.any (fun y=>y==x)
      ·rw[CU]at Fp;refine⟨{sj with aC:=sj.aC+1,names:=(x,sj.aC+1)::sj.names},rfl,rfl,qj.l8.named x MK CU,by simp;omega,?_⟩;rw[<-Fp.1,<-Fp.2,hg0,wU];exact⟨rfl,rfl⟩
      ·rw[CU]at Fp;have Je:sj.au.kX≠none:=by rw[pC];unfold mG;rw[CU];exact ads _ _
       refine⟨{sj with aC:=sj.aC+1},rfl,rfl,qj.l8.aoV x MK CU Je,by simp;omega,?_⟩;rw[<-Fp.1,<-Fp.2,hg0];exact⟨rfl,rfl⟩
     have aqJ:e+1<=sj.next:=by rw[pC,WT];exact Aa _
     have aqK:sj.next<=e+1:=by rw[pC,WT];exact Aa _
     clear pC HS;obtain⟨sq,q1,q2,q3,q4,q5⟩:=nW;have HS:Hid (aE g k sq=X):=q5.1;have HSR:Hid (fe g k ax sq=RX):=q5.2;have HQ1:Hid (sq.next=sj.next):=q1;have aqL:e+1<=sq.next:=(by omega);have aqM:sq.next<=e+1:=by omega
     have BJ:Hid (sq.au=sj.au):=q2;clear q5 q1 q2;obtain⟨FD,cc9,We⟩:=dY qj.names;have c93:wr.cell? ⟨t.b,3,none⟩=some (.slice FD nl.length cc9):=by rw[<-We];exact qj.ae.cell 3
     have yn:=qj.names;rw[We]at yn;have Qj:¬(j:Int)<(nl.length:Int):=(by omega);clear rY vq;have cp0:wr.cell? ⟨w.heap.size,0,none⟩=some (.string ⟨#[103,114,111,117,112]⟩):=zv.cell 0;have sp:=zv.lt;go_wp2_with (at_builtin;refine Ad _ rfl _ _ 31 rfl (t.b+1) 9 i0 _ 1 16 underlying31 b_ cE cI cH rfl (by decide) _ _ _ rfl (yn.alloc _) ⟨wr.heap.size,0,none⟩ 1 1 [.string ⟨x.toArray⟩] rfl rfl ?c1 ?c2 ?c3 ?c4 ?c5 ?_)
     first
      |(case c1=>exact Cc _ _ _)
      |skip
     case c2=>first|rfl|(intro u hu;simp at hu;subst hu;rfl)
     case c3=>unfold maxLen;omega
     case c4=>omega
     case c5=>first|omega|(rw[cR];omega)|(simp;omega)
     intro v' w3 bE aX cJ bH;rw[<-We]at aX bH;have kg:I (fun i=>vn.ownBlock=some i) wr w3:=((I.refl _ _).alloc _).dn aX (fun j hj=>Or.inl hj);have b3:=zv.kept kg (fun e=>by have:=fK _ e;omega);have h4:bc (w3.setCell ⟨t.b,3,none⟩ v') t g sq ax v' (nl++[x]):=bc.aeF qj x ((I.refl _ _).alloc _) bE aX HQ1.out ⟨by rw[BJ.out],by rw[BJ.out],by rw[BJ.out]⟩ q3 q4
     have lY:∀i,v'.ownBlock=some i->vn.ownBlock=some i\/w.heap.size<i:=by
      intro i hi;rcases bH with h|h
      ·exact Or.inl (h▸hi)
      ·rw[h]at hi;cases hi;exact Or.inr (by omega)
     obtain⟨nE,wv,lB⟩:=dY bE;rw[lB]at h4 lY⊢;have k4:=(my.bY kg (fun i hi he=>Or.inr he)).trans ((dr (w:=w3) (t:=t) 3 (.slice nE (nl.length+1) wv)).mono (fun i hi=>Or.inl hi));have c35:w3.cell? ⟨w.heap.size,5,none⟩=some (.int .i64 0):=b3.cell 5;have f35:=b3.frozen 5;have ajN:t.b<w3.heap.size:=by have:=b3.lt;omega
     have zf:=qj.ae.kept kg (fun hb=>by have:=(cA qj.names hb).1;omega);have f33:=zf.frozen 3;have c33:w3.cell? ⟨t.b,3,none⟩=some vn:=zf.cell 3;have c32:w3.cell? ⟨t.b,2,none⟩=some (.int .i64 ax):=zf.cell 2;have f32:=zf.frozen 2;clear bE aX cJ bH lB;have k5:I (fun i=>i=w.heap.size) (w3.setCell ⟨t.b,3,none⟩ (.slice nE (nl.length+1) wv)) ((w3.setCell ⟨t.b,3,none⟩ (.slice nE (nl.length+1) wv)).setCell ⟨w.heap.size,5,none⟩ (.int .i64 ((nl.length:Int)+1))):=(I.refl (fun i=>i=w.heap.size) _).setCell (p:=⟨w.heap.size,5,none⟩) (Or.inl rfl) _;have h5:=h4.new hT k5 (fun i hi=>by omega) (fun b hb hx=>(lY b hb).elim (fun h=>by have:=fK b h;omega) (fun h=>by omega));have b5:=(b3.dD (p:=⟨t.b,3,none⟩) (show w.heap.size≠t.b by omega) (.slice nE (nl.length+1) wv)).setCell 5 (.int .i64 ((nl.length:Int)+1));have kx:=k4.bY k5 (fun i hi he=>by omega);obtain⟨wx,rZ⟩:∃wx,wx=(w3.setCell ⟨t.b,3,none⟩ (.slice nE (nl.length+1) wv)).setCell ⟨w.heap.size,5,none⟩ (.int .i64 ((nl.length:Int)+1)):=⟨_,rfl⟩
     have hx:=h5;have bx:=b5;rw[<-rZ]at hx bx kx;clear h5 b5 h4 k4 k5;have V_:t.b<wx.heap.size:=hx.gR;have Wk:=(hx.next);have L_:=hT.kO;have T7:wx.cell? ⟨t.b,2,none⟩=some (.int .i64 ax):=hx.ae.cell 2;have UB:=hx.ae.frozen 2;have Gn:0<=ax/\ax<=((sq.next:Nat):Int):=(by omega);have h6:=hx.vO ax Gn;have b6:=bx.dD (p:=⟨t.b,2,none⟩) (show w.heap.size≠t.b by omega) (.int .i64 ax);have k6:=kx.trans ((dr (w:=wx) (t:=t) 2 (.int .i64 ax)).mono (fun i hi=>Or.inl hi));go_wp2_with fail;rw[<-rZ];clear rZ;refine(hA _ t _ _ _ _ h6 (by show g.rs.length-sq.next<k;omega) (by rw[HS.out];exact a2)).mono ?_;rw[HS.out,HSR.out];rintro e w7 ⟨b7,Hv,WY,rfl,h7,q2,q3,q4⟩;have pD:∀i,Hv.ownBlock=some i->i<w7.heap.size:=fun i hi=>(cA h7.names hi).2
     have oq:=b6.kept q3 (by rintro(e|e);·omega
                             ·rcases lY _ e with h|h
                              ·have:=fK _ h;omega
                              ·omega)
     have s7:=q3.size;rw[fx]at s7;have sx:=bx.lt;have hX:=(h7.next);have xc:=gI (g:=g) (st:=X.1) (by intro e;rw[e,Jr]at a1;exact absurd a1 (by simp));have Vk:=h7.kO;have Ld:w7.cell? ⟨w.heap.size,4,none⟩=some (.slice none 0 0):=oq.cell 4;have f74:=oq.frozen 4;have TW:w7.cell? ⟨t.b,2,none⟩=some (.int .i64 ax):=h7.ae.cell 2;have f72:=h7.ae.frozen 2;have Ir:w7.cell? ⟨t.b,1,none⟩=some (.int .i64 X.1.next):=h7.ae.cell 1;have f71:=h7.ae.frozen 1;have V7:=h7.gR;have VG:=oq.lt;have UZ:X.1.next<=300:=(by omega);have k8:I (fun i=>i=w.heap.size) w7 (w7.setCell ⟨w.heap.size,4,none⟩ (.slice (some ⟨w7.heap.size,0,none⟩) 1 1)):=(I.refl (fun i=>i=w.heap.size) w7).setCell (p:=⟨w.heap.size,4,none⟩) (Or.inl rfl) _
     have h8:=h7.new hT k8 (fun i hi=>by omega) (fun b hb hx=>by
      rcases q4 b hb with h|h
      ·rcases lY b h with h|h
       ·have:=fK b h;omega
       ·omega
      ·rw[fx]at h;omega)
     have h9:=((h8.vO ax (by omega)).step (by omega)).nil ((I.refl aq _).alloc (.cells #[.pointer (some ⟨b7,0,none⟩)] 30));have k9:I (fun i=>i=t.b\/i=w.heap.size) w7 _:=(((k8.mono (fun i hi=>Or.inr hi)).trans ((dr (t:=t) 2 (.int .i64 ax)).mono (fun i hi=>Or.inl hi))).trans ((dr (t:=t) 1 (.int .i64 ((X.1.next:Int)+1))).mono (fun i hi=>Or.inl hi))).alloc (.cells #[.pointer (some ⟨b7,0,none⟩)] 30);have b9:=(((oq.setCell 4 (.slice (some ⟨w7.heap.size,0,none⟩) 1 1)).dD (p:=⟨t.b,2,none⟩) (show w.heap.size≠t.b by omega) (.int .i64 ax)).dD (p:=⟨t.b,1,none⟩) (show w.heap.size≠t.b by omega) (.int .i64 ((X.1.next:Int)+1))).alloc (.cells #[.pointer (some ⟨b7,0,none⟩)] 30);have oz:ay ((((w7.setCell ⟨w.heap.size,4,none⟩ (.slice (some ⟨w7.heap.size,0,none⟩) 1 1)).setCell ⟨t.b,2,none⟩ (.int .i64 ax)).setCell ⟨t.b,1,none⟩ (.int .i64 ((X.1.next:Int)+1))).alloc (.cells #[.pointer (some ⟨b7,0,none⟩)] 30)) w7.heap.size #[.pointer (some ⟨b7,0,none⟩)] 30:=ay.jF _ _ (by simp only[fx]);go_wp2_with fail;go_ret;rw[HR.out];exact Pc (wa:=wx.setCell ⟨t.b,2,none⟩ (.int .i64 ax)) hT k6 rfl (by rw[fx];exact sx) lY q2 q3 q4 pD h9 k9 (oz.cell 0) (Aa _) b9 adG
theorem ag2(hA:yP g k)(hT:bc w t g st ax vn nl)(ar:st.next<t.l.length)(rX:g.rs.length-st.next<=k)
 (hf:(jr g (aE g k) {st with next:=st.next+1}).1.au.form=none):
 Calls prog 88 #[.pointer (some ⟨t.b,0,none⟩)] w (gP w t g ax vn (jr g (aE g k) {st with next:=st.next+1}) (pK g (fe g k) ax {st with next:=st.next+1})):=by
 cases hq:(aa g {st with next:=st.next+1}==63)
 ·exact agX hA hT ar rX hq hf
 ·have lT:(dy g {st with next:=st.next+1}).au.form=none:=EO g k _ (jE hf).2.1;unfold dy at lT;rw[show ak dG (aa g {st with next:=st.next+1})=(aa g {st with next:=st.next+1}==63)from kD 63 _,hq]at lT;simp only[Dv,if_false]at lT;rw[show ak pH (aa g {st with next:=st.next+2})=(aa g {st with next:=st.next+2}==60)from kD 60 _]at lT
  cases hr:(aa g {st with next:=st.next+2}==60)
  ·rw[hr]at lT;simp only[Ag,if_false]at lT;obtain⟨a1,a2,a3⟩:=jE lT
   cases hi:(aa g {st with next:=st.next+2}==105)
   ·have e:bT g lI {st with next:=st.next+2}={st with next:=st.next+2}:=by
     unfold bT;rw[show ak lI (aa g {st with next:=st.next+2})=(aa g {st with next:=st.next+2}==105)from kD 105 _,hi];rfl
    rw[e,show ak zP (aa g {st with next:=st.next+2})=(aa g {st with next:=st.next+2}==58)from kD 58 _]at a1;exact agU hA hT ar rX hq a1 hf
   ·have e:bT g lI {st with next:=st.next+2}={st with next:=st.next+3}:=by
     unfold bT;rw[show ak lI (aa g {st with next:=st.next+2})=(aa g {st with next:=st.next+2}==105)from kD 105 _,hi];rfl
    rw[e]at a1;have hl:=fj a1;have oG:=hT.nZ;simp only at hl;exact agW hA hT ar rX hq hi (by omega) hf
  ·exact agZ hA hT ar rX hq hr hf
theorem aoe(hA:yP g k)(hT:bc w t g st ax vn nl)(rX:g.rs.length-st.next<=k)
 (hf:(dU g (bD g (aE g k) st).2 (bD g (aE g k) st).1).1.au.form=none)
 (hC:aa g st=91->∀w,bc w t g st ax vn nl->Calls prog 89 #[.pointer (some ⟨t.b,0,none⟩)] w (gP w t g ax vn (iT g {st with next:=st.next+1},gX) (xx g ax {st with next:=st.next+1}))):
 Calls prog 36 #[.pointer (some ⟨t.b,0,none⟩)] w (gP w t g ax vn (dU g (bD g (aE g k) st).2 (bD g (aE g k) st).1) (yG g (xw g (fe g k) ax st) (bD g (aE g k) st).1)):=by
 have oG:=hT.nZ;have CZ:=Xs hf;refine aow hT ?_ hf;refine agp hT CZ (fun tV w' LM=>?_) hC;have ar:=gI (g:=g) (st:=st) (by rw[tV];omega);refine ag2 hA LM (by omega) rX ?_;unfold bD at CZ;rw[show ak vC (aa g st)=(aa g st==40)from kD 40 _,tV]at CZ;exact CZ
abbrev kG(b:Nat):Value:=.pointer (some ⟨b,0,none⟩)
structure mf(w:World)(base hi:Nat)(vk vn:Value)(Ps:List Nat)(ts:List PT)(rs:List RT):Prop where
 aN:w.ownsRow base 30 1 vk ts.length (Ps.map kG)
 len:Ps.length=ts.length
 yH:rs.length=ts.length
 cB:ts.length<=400
 le:hi<=w.heap.size
 eD:∀b,vk.ownBlock=some b->vn.ownBlock≠some b
 sh:∀i,(h:i<ts.length)->(h':i<Ps.length)->(h3:i<rs.length)->eV w (fun j=>base<=j/\j<hi/\vk.ownBlock≠some j/\vn.ownBlock≠some j) Ps[i] ts[i] rs[i]
theorem mf.nil(w:World)(base hi:Nat)(vn:Value)(h:hi<=w.heap.size):mf w base hi (.slice none 0 0) vn [] [] []:=⟨At _ _ _ _,rfl,rfl,by simp,h,fun b hb=>by simp[Value.ownBlock]at hb,fun i h=>by simp at h⟩
theorem mf.kept{q_:Value}{ts:List PT}{S:Nat->Prop}(h:mf w base hi vk vn Ps ts rs)(k:I S w w')(hs:∀j,S j->j<base\/vn.ownBlock=some j\/hi<=j)(GO:∀b,vk.ownBlock=some b->¬S b)
 (hv:∀i,q_.ownBlock=some i->vn.ownBlock=some i\/w.heap.size<=i):mf w' base hi vk q_ Ps ts rs where
 aN:=dh h.aN k GO
 len:=h.len
 yH:=h.yH
 cB:=h.cB
 le:=Bf h.le k.size
 eD b hb e:=by
  rcases hv b e with h1|h1
  ·exact h.eD b hb h1
  ·have:=(cA h.aN hb).2;omega
 sh i h1 h2 h3:=by
  refine((h.sh i h1 h2 h3).kept k (fun j hj hx=>?_)).np (fun j hj _=>⟨hj.1,hj.2.1,hj.2.2.1,fun e=>?_⟩)
  ·rcases hs j hx with h3|h3|h3
   ·have:=hj.1;omega
   ·exact hj.2.2.2 h3
   ·have:=hj.2.1;omega
  ·rcases hv j e with h3|h3
   ·exact hj.2.2.2 h3
   ·have:=hj.2.1;have:=h.le;omega
theorem mf.up{aS:Nat}{ts:List PT}(h:mf w base hi vk vn Ps ts rs)(h1:hi<=aS)(h2:aS<=w.heap.size):mf w base aS vk vn Ps ts rs:=
 ⟨h.aN,h.len,h.yH,h.cB,h2,h.eD,fun i a b c=>(h.sh i a b c).np (fun j hj _=>⟨hj.1,by have:=hj.2.1;omega,hj.2.2⟩)⟩
theorem mf.lg{gz:Nat}{ts:List PT}{T:PT}{R:RT}(h:mf w base hi vk vn Ps ts rs)(hq:eV w (Fr lo gz vn) b T R)(d_:base<=lo)(MI:∀b,vk.ownBlock=some b->b<lo)(fX:gz<=w.heap.size)(fK:∀b,vn.ownBlock=some b->b<w.heap.size)
 (k1:I aq w w1)(a8:w'.ownsRow base 30 1 v' (ts.length+1) (Ps.map kG++[kG b]))(hg:w1.grownBy w' vk.ownBlock)(bH:v'.ownBlock=vk.ownBlock\/v'.ownBlock=some w1.heap.size)(dg:ts.length+1<=400):
 mf w' base w'.heap.size v' vn (Ps++[b]) (ts++[T]) (rs++[R]):=by
 have kk:I (fun i=>vk.ownBlock=some i) w w':=(k1.mono (fun _ hx=>hx.elim)).dn hg (fun j hj=>Or.inl hj);have bm:w.heap.size<=w1.heap.size:=k1.size;have hle:=h.le;have MB:=h.yH;refine⟨by simpa using a8,by simp[h.len],by simp[h.yH],by simpa using dg,Aa _,fun c hc e=>?_,fun i ue ap7 Qh=>?_⟩
 ·rcases bH with hl|hl
  ·exact h.eD c (hl▸hc) e
  ·rw[hl]at hc;cases hc;have:=fK _ e;omega
 ·by_cases ar:i<ts.length
  ·have a3:=h.sh i ar (by rw[h.len];exact ar) (by rw[h.yH];exact ar);have e1:(Ps++[b])[i]=Ps[i]'(by rw[h.len];exact ar):=A6 _;have e2:(ts++[T])[i]=ts[i]:=A6 _;have e3:(rs++[R])[i]=rs[i]'(by rw[h.yH];exact ar):=A6 _;rw[e1,e2,e3];refine(a3.kept kk (fun j hj hx=>hj.2.2.1 hx)).np (fun j hj I4=>⟨hj.1,I4,fun e=>?_,hj.2.2.2⟩);rcases bH with hl|hl
   ·exact hj.2.2.1 (hl▸e)
   ·rw[hl]at e;cases e;have:=hj.2.1;omega
  ·have aS:i=ts.length:=by simp at ue;omega
   subst aS;have e1:(Ps++[b])[ts.length]=b:=(by simp[<-h.len]);have e2:(ts++[T])[ts.length]=T:=(by simp);have e3:(rs++[R])[ts.length]=R:=(by simp[<-h.yH]);rw[e1,e2,e3];refine(hq.kept kk (fun j hj hx=>by have:=MI j hx;have:=hj.1;omega)).np (fun j hj I4=>⟨by have:=hj.1;omega,I4,fun e=>?_,hj.2.2⟩);rcases bH with hl|hl
   ·have:=MI j (hl▸e);have:=hj.1;omega
   ·rw[hl]at e;cases e;have:=hj.2.1;omega
theorem mf.node{ts:List PT}(h:mf w base hi vk vn Ps ts rs){op:ByteArray}{kk:Int}(dq:ay w b (gJ op (.slice none 0 0) false false vk 0 0 0 false) 114)(d_:lo<=b)(hb:b<hi)(sU:vn.ownBlock≠some b)(abJ:lo<=base)(bS:xN op kk)(cQ:kk≠4)(aQ:kk=3->ts≠ []):
 eV w (Fr lo w.heap.size vn) b (.node kk ts 0 0) (.node op [] false false rs 0 0 0 false):=by
 have aJ:∀i,(h':i<ts.length)->(h3:i<rs.length)->eV w (Fr lo w.heap.size vn) (Ps.getD i 0) ts[i] rs[i]:=by
  intro i aS Qh;have gz:i<Ps.length:=by rw[h.len];exact aS
  have e:Ps.getD i 0=Ps[i]:=by simp[List.getD,Ab gz]
  rw[e];exact(h.sh i aS gz Qh).np (fun j hj I4=>⟨by have:=hj.1;omega,I4,hj.2.2.2⟩)
 have hle:=h.le;have aN:=h.aN;have eD:=h.eD;rcases aN.2 with⟨rfl,hn⟩|⟨g,cap,aU,rfl,a1,a2,a3,a4,a5,a6⟩
 ·have e:ts=[]:=Az.1 hn;subst e;have er:rs=[]:=Az.1 h.yH;subst er;exact eV.mk b op [] none 0 0 false false false 0 0 0 kk 0 0 none 0 0 [] [] (fun _=>0) dq ⟨d_,by omega,sU⟩ bS (fun h=>absurd h cQ) (fun h=>absurd rfl h) (fun i h=>by simp at h) rfl (fun i h=>by simp at h) ⟨by omega,by omega,by simp,aQ⟩ (g_.nil _ _)
 ·refine eV.mk b op [] none 0 0 false false false 0 0 0 kk 0 0 _ cap g ts rs (fun i=>Ps.getD i 0) dq ⟨d_,by omega,sU⟩ bS (fun h=>absurd h cQ) (fun _=>⟨rfl,by omega,(Ah.1 a2).1,eD g rfl⟩) (fun i aS=>?_) h.yH aJ ⟨by omega,by omega,h.cB,aQ⟩ (g_.nil _ _);have gz:i<Ps.length:=by rw[h.len];exact aS
  have e:Ps.getD i 0=Ps[i]:=by simp[List.getD,Ab gz]
  rw[e];have hx:(Ps.map kG)[i]? =some (kG Ps[i]):=by simp[Ab gz]
  rw[<-a6,Al (by omega)]at hx;simp only[World.cell?,a2];simpa using hx
theorem Z_(r:Int):ak jQ r=(r==124||r==41):=by
 unfold ak jQ;simp only[Ch,Cn,Br];rw[Av];simp only[Ai,Bo];constructor
 ·rintro(h|h)<;>simp at h<;>omega
 ·rintro(h|h)<;>simp<;>omega
theorem Tryz.akd:(prog.info? 30).map (fun i=>(i.zero,i.size,i.bytes))=some (some (.pointer none),1,8):=by kernel_rfl
theorem gQ.put(h:gQ G v S)(hb:G.T b=none):gQ (G.put b Z) v S:=by
 rcases h with h|⟨b',h1,h2⟩
 ·exact Or.inl h
 ·refine Or.inr ⟨b',h1,?_⟩;show(if b'=b then _ else _)=_
  rw[if_neg (by intro e;subst e;rw[hb]at h2;simp at h2)];exact h2
theorem aaj{b':Nat}{cs':Array Value}{t t':TypeId}(h:ay w b cs t)(h':ay w b' cs' t')(aF:t≠t'):b≠b':=by
 intro e;subst e;unfold ay at h h';rw[h]at h'
 cases h'
 exact aF rfl
theorem JO(h:(G.put b Z).mu k):k=b\/G.mu k:=by
 rcases h with h|h
 ·by_cases e:k=b
  ·exact Or.inl e
  ·refine Or.inr (Or.inl ?_);have:(G.put b Z).T k=G.T k:=if_neg e;rw[this]at h;exact h
 ·exact Or.inr (Or.inr h)
theorem du.af4(h:du w G E)(dq:ay w b (uY vn c vm (.slice none 0 0) (.slice none 0 0)) 118)(Jd:¬G.mu b)(Wb:¬E.U b)(hx:b≠E.xb)(hl:E.x.l≠ []->b≠E.bl)
 (hS:mg E.K (c::S))(hd:Deep E.D (c::S))(hn:Fw w E.U vn c.n)(hm:gQ G vm S):du w (G.put b (c::S)) E:=by
 have LO:G.T b=none:=by
  cases e:G.T b with
  |none=>rfl
  |some q=>exact absurd (Or.inl (by rw[e];simp)) Jd
 refine⟨fun b' Z fg=>?_,fun k hk=>?_,fun k hk=>?_,fun k hu q=>?_,h.ul,h.tx,fun q=>?_,fun rR q=>?_⟩
 ·by_cases e:b'=b
  ·subst e;have:(G.put b' (c::S)).T b'=some (c::S):=if_pos rfl;rw[this]at fg
   cases fg;exact⟨c,S,vn,vm,_,_,rfl,hS,hd,dq,hn,hm.put LO,Or.inl rfl,Or.inl ⟨rfl,fun i=>by have e:(G.put b' (c::S)).N b'=fun _=>[]:=if_pos rfl;rw[e]⟩⟩
  ·have:(G.put b (c::S)).T b'=G.T b':=if_neg e;rw[this]at fg;obtain⟨c1,S1,eU,mN,rj,AU,e1,h1,h2,h3⟩:=h.ct b' Z fg;refine⟨c1,S1,eU,mN,rj,AU,e1,h1,h2,h3.ae,h3.node,h3.more.put LO,?_,?_⟩
   ·rcases h3.next with q|⟨n,tb,cap,zs,q1,q2,q3⟩
    ·exact Or.inl q
    ·refine Or.inr ⟨n,tb,cap,zs,q1,q2,⟨q3.pos,q3.cB,q3.lt,fun q=>?_,q3.len,q3.cell,fun k hk dL=>(q3.st k hk dL).put LO,q3.ty⟩⟩;rcases JO q with q|q
     ·obtain⟨aU,hc⟩:=q3.ty;exact aaj hc dq (by decide) q
     ·exact q3.mu q
   ·have hNb:(G.put b (c::S)).N b'=G.N b':=if_neg e;rcases h3.no with q|⟨tb,rows,q1,q2⟩
    ·exact Or.inl ⟨q.1,by rw[hNb];exact q.2⟩
    ·refine Or.inr ⟨tb,rows,q1,⟨q2.aN,q2.ae,q2.size,fun i hi=>?_⟩⟩;obtain⟨v,r1,r2⟩:=q2.row i hi;refine⟨v,r1,?_⟩;unfold wc at r2⊢;rw[hNb];exact r2
 ·rcases JO hk with q|q
  ·subst q;exact dq.lt
  ·exact h.lt k q
 ·show G.O k=none
  by_cases e:k=b
  ·subst e
   cases ho:G.O k with
   |none=>rfl
   |some p=>exact absurd (Or.inr (by rw[ho];simp)) Jd
  ·refine h.po k ?_;have:(G.put b (c::S)).T k=G.T k:=if_neg e;rw[this]at hk;exact hk
 ·rcases JO q with q|q
  ·subst q;exact Wb hu
  ·exact h.um k hu q
 ·rcases JO q with q|q
  ·exact hx q.symm
  ·exact h.sC.1 q
 ·rcases JO q with q|q
  ·exact hl rR q.symm
  ·exact h.sC.2 rR q
def OL(w:World)(ks:List RT)(P:Nat->Nat)(vm:Value)(lo:Nat)(db:List Nat):Prop:=
 db.length<=ks.length/\∀i,(h:i<db.length)->(h':i<ks.length)->lo<=db[i]/\ay w db[i] (uY (.pointer (some ⟨P i,0,none⟩)) (bo ks[i]) vm (.slice none 0 0) (.slice none 0 0)) 118
theorem du.ZQ{w0:World}{ks:List RT}(h0:du w0 G E)(h:du w G E)(hm:gQ G vm S):∀(m:Nat) (db:List Nat),db.length=m->OL w ks P vm w0.heap.size db->db.Pairwise (fun a b=>a<b)->
 (∀i,(h:i<ks.length)->mg E.K (bo ks[i]::S)/\Deep E.D (bo ks[i]::S)/\Fw w E.U (.pointer (some ⟨P i,0,none⟩)) (some ks[i]))->
 ∃G',du w G' E/\Ext w0 G G'/\gQ G' vm S/\(∀k,G'.mu k->G.mu k\/k∈db)/\∀i,(h:i<db.length)->(h':i<ks.length)->G'.T db[i]=some (bo ks[i]::S)
 |0,db,hl,hN,hp,hk=>by
  obtain rfl:db=[]:=Az.1 hl;exact⟨G,h,Ext.refl w0 G,hm,fun k q=>Or.inl q,fun i h=>by simp at h⟩
 |m+1,db,hl,hN,hp,hk=>by
  have aF:db≠ []:=by intro e;subst e;simp at hl
  obtain⟨q,b,rfl⟩:∃q b,db=q++[b]:=⟨db.dropLast,db.getLast aF,(List.dropLast_concat_getLast aF).symm⟩
  have GK:q.length=m:=by simpa using hl
  have yo:=Cm.1 hp
  obtain⟨G1,i1,e1,s1,m1,t1⟩:=du.ZQ h0 h hm m q GK ⟨by have:=hN.1;simp at this;omega,fun i hi aS=>by
   have:=hN.2 i (by simp;omega) aS;rw[A6 hi]at this;exact this⟩ yo.1 hk
  have rS:m<ks.length:=by have:=hN.1;simp at this;omega
  have hb:=hN.2 m (by simp[GK]) rS;have eb:(q++[b])[m]'(by simp[GK])=b:=by simp[<-GK]
  rw[eb]at hb;obtain⟨d_,dq⟩:=hb;have hbq:b∉q:=fun hq=>by have:=yo.2.2 b hq b (by simp);omega
  have Jd:¬G1.mu b:=fun hq=>by
   rcases m1 b hq with hq|hq
   ·have:=h0.lt b hq;omega
   ·exact hbq hq
  obtain⟨o1,o2,o3⟩:=hk m rS;have i2:=i1.af4 dq Jd (fun hu=>by have:=h0.ul b hu;omega) (fun e=>by have:=h0.tx.ae.lt;omega) (fun rR e=>by have:=(h0.tx.gl.isSome rR).2.2;omega) o1 o2 o3 s1
  have LO:G1.T b=none:=by
   cases e:G1.T b with
   |none=>rfl
   |some q=>exact absurd (Or.inl (by rw[e];simp)) Jd
  refine⟨_,i2,fun k dL=>?_,s1.put LO,fun k hq=>?_,fun i hi aS=>?_⟩
  ·have h1:(G1.put b (bo ks[m]::S)).T k=G1.T k:=if_neg (by omega);have h2:(G1.put b (bo ks[m]::S)).N k=G1.N k:=if_neg (by omega);rw[h1,h2];exact e1 k dL
  ·rcases JO hq with e|hq
   ·subst e;exact Or.inr (by simp)
   ·rcases m1 k hq with hq|hq
    ·exact Or.inl hq
    ·exact Or.inr (by simp[hq])
  ·by_cases ar:i<q.length
   ·rw[A6 ar];have zz:q[i]≠b:=(fun e=>hbq (by rw[<-e];exact Ay ar));have:(G1.put b (bo ks[m]::S)).T q[i]=G1.T q[i]:=if_neg zz;rw[this];exact t1 i ar aS
   ·have gz:i=m:=by simp at hi;omega
    subst gz;rw[eb];exact if_pos rfl
theorem lJ.many(hl:cF n c S=n.aJ.map (fun k=>bo k::S))(dA:db.length=n.aJ.length)(pB:0<db.length)(dg:db.length<=400)(a8:w.ownsRow base 66 1 v' db.length (db.map kG))
 (cS:∀i,(h:i<db.length)->(h':i<n.aJ.length)->G.T db[i]=some (bo n.aJ[i]::S))(gA:∀k,v'.ownBlock=some k->¬G.mu k):
 ∃tb cap zs,v'=.slice (some ⟨tb,0,none⟩) zs.length cap/\lJ w G n c S tb zs:=by
 rcases a8.2 with⟨_,h0⟩|⟨g,cap,aU,rfl,a1,a2,a3,a4,a5,a6⟩
 ·omega
 ·refine⟨g,cap,db.map kG,by simp,⟨by simpa using pB,by simpa using dg,(Ah.1 a2).1,gA g rfl,by rw[hl];simp[dA],fun k hk=>?_,fun k hk dL=>?_,⟨aU,a2⟩⟩⟩
  ·obtain⟨y,hy⟩:∃y,(db.map kG)[k]=y:=⟨_,rfl⟩
   have hx:(db.map kG)[k]? =some y:=(by rw[Ab hk,hy]);have aG:k<db.length*1:=by simp at hk;omega
   rw[<-a6,Al aG]at hx;rw[hy];simp only[World.cell?,a2];simpa using hx
  ·have aG:k<db.length:=(by simpa using hk);have aQ:k<n.aJ.length:=(by omega);refine Or.inr ⟨db[k],by simp,?_⟩;have e:(cF n c S)[k]=bo n.aJ[k]::S:=(by simp[hl]);rw[e];exact cS k aG aQ
theorem XK{m:Nat}{p:Nat}(h:w.ownsRow base 66 1 v m xs)(hp:ay w p cs 118):v.ownBlock≠some p:=by
 rcases h.2 with⟨rfl,_⟩|⟨g,cap,aU,rfl,a1,a2,_⟩
 ·simp[Value.ownBlock]
 ·intro e;simp only[Value.ownBlock,Cf]at e;have hg:ay w g aU 66:=a2;exact aaj hg hp (by decide) e
theorem ahl{wr w3:World}{a:Option Addr}{pb:Nat}{u3:Value}{o:Obj}(HO:wr.ownsRow w.heap.size 66 1 u3 db.length (db.map kG))(HN:OL wr n.aJ P (.pointer a) w.heap.size db/\db.Pairwise (fun a b=>a<b)/\∀p∈db,p<wr.heap.size)
 (hK:I aq w wr)(aG:I aq wr w2)(ar:db.length<n.aJ.length)(s_:wr.heap.size<=pb)(Ji:ay w2 pb (uY (.pointer (some ⟨P db.length,0,none⟩)) (bo n.aJ[db.length]) (.pointer a) (.slice none 0 0) (.slice none 0 0)) 118)
 (a8:w3.ownsRow w.heap.size 66 1 v' (db.length+1) (db.map kG++[kG pb]))(aX:(w2.alloc o).grownBy w3 u3.ownBlock):
 w3.ownsRow w.heap.size 66 1 v' (db++[pb]).length ((db++[pb]).map kG)/\(OL w3 n.aJ P (.pointer a) w.heap.size (db++[pb])/\(db++[pb]).Pairwise (fun a b=>a<b)/\∀p∈db++[pb],p<w3.heap.size)/\I aq w w3:=by
 have xh:I (fun i=>u3.ownBlock=some i) w2 w3:=((I.refl _ w2).alloc o).dn aX (fun j hj=>Or.inl hj);have xt:=dh HO aG (fun _ _ q=>q);have oJ:=aG.size;have Jm:=xh.size;have hsw:=hK.size;obtain⟨⟨n1,n2⟩,n3,n4⟩:=HN;refine⟨by simpa using a8,⟨⟨by simp;omega,fun i hi aS=>?_⟩,?_,fun p hp=>?_⟩,(hK.trans aG).bY xh (fun i hi he=>by have:=(cA xt he).1;omega)⟩
 ·by_cases lx:i<db.length
  ·obtain⟨q1,q2⟩:=n2 i lx aS;rw[A6 lx];have q3:=q2.kept aG (fun q=>q);exact⟨q1,q3.kept xh (XK xt q3)⟩
  ·have uf:i=db.length:=by simp at hi;omega
   subst uf;have e:(db++[pb])[db.length]=pb:=(by simp);rw[e];exact⟨by omega,Ji.kept xh (XK xt Ji)⟩
 ·refine Cm.2 ⟨n3,by simp,fun p hp q hq=>?_⟩;simp only[Bj]at hq;subst hq;have:=n4 p hp;omega
 ·rcases A2.1 hp with hp|hp
  ·have:=n4 p hp;omega
  ·simp only[Bj]at hp;subst hp;have:=Ji.lt;omega
theorem akE(h:du w G E)(hb:G.T b=some (c::S))(hn:c.n=some n)(bS:n.op=iI)(aF:n.aJ≠ []):
 Calls prog 65 #[.pointer (some ⟨b,0,none⟩)] w (xL w G E b n c S):=by
 obtain⟨i0,b_,cE,cI,cH⟩:=A7 Tryz.G7;obtain⟨vm,vt,dQ,nb,ao,bk,cap,P,bC,iX,aM,hF⟩:=h.open hb hn;have c0:w.cell? ⟨b,0,none⟩=some (.pointer (some ⟨nb,0,none⟩)):=aM.ae.cell 0;have c5:w.cell? ⟨b,5,none⟩=some vm:=aM.ae.cell 5;obtain⟨a,qQ⟩:=aM.more.kG;have ji:=aM.ae.lt;have d0:w.cell? ⟨nb,0,none⟩=some (.string ⟨#[97,108,116]⟩):=by have:=hF.op;rw[bS]at this;exact this
 obtain⟨eu,hU,U9⟩:=hF.ig aF;have d4:w.cell? ⟨nb,4,none⟩=some (.slice (some ⟨bk,0,none⟩) n.aJ.length cap):=by rw[<-eu];exact hF.aJ
 have DJ:=hF.lt;have dg:=hF.cB;have hm:=aM.more;rw[qQ]at c5 hm;have fp:cF n c S=n.aJ.map (fun k=>bo k::S):=Ha bS;have jB:=zT hn (bC c Aq) (fun d hd=>bC d (Ar _ hd)) iX;have HL:Hid (cF n c S=n.aJ.map (fun k=>bo k::S)):=fp;have HF:Hid (Ic w E.U nb n ao bk cap P):=hF;have qy:Hid (∀i,(h:i<n.aJ.length)->mg E.K (bo n.aJ[i]::S)/\Deep E.D (bo n.aJ[i]::S)):=fun i hi=>jB _ (by rw[fp];exact Bh.2 ⟨n.aJ[i],Ay hi,rfl⟩)
 have pB:0<n.aJ.length:=Bu.2 aF;clear fp jB aM bS hF eu;go_in;go_wp2_with fail;go_loopg [3,7] n.aJ.length (fun kk v3 v7 wr=>∃(j:Nat) (db:List Nat),j<=n.aJ.length/\v7=.int .i64 j/\db.length=j/\kk=n.aJ.length-j/\Hid (wr.ownsRow w.heap.size 66 1 v3 db.length (db.map kG))/\Hid (OL wr n.aJ P (.pointer a) w.heap.size db/\db.Pairwise (fun a b=>a<b)/\∀p∈db,p<wr.heap.size)/\I aq w wr)
 case atStart=>exact⟨0,[],Aw _,rfl,rfl,rfl,At _ _ _ _,⟨⟨by simp,fun i h=>by simp at h⟩,List.Pairwise.nil,fun p hp=>by simp at hp⟩,I.refl _ _⟩
 case round=>
  obtain⟨j,db,hj,rfl,rfl,gH,HO,HN,hK⟩:=hrel;have e0:wr.cell? ⟨b,5,none⟩=some (.pointer a):=by rw[hK.cell (p:=⟨b,5,none⟩) ji (fun q=>q)];exact c5
  have e4:wr.cell? ⟨nb,4,none⟩=some (.slice (some ⟨bk,0,none⟩) n.aJ.length cap):=by rw[hK.cell (p:=⟨nb,4,none⟩) DJ (fun q=>q)];exact d4
  have aqX:=hK.size;by_cases ar:db.length<n.aJ.length
  ·obtain⟨LZ,T,lU⟩:=HF.out.sh db.length ar;have dj:wr.cell? ⟨bk,db.length,none⟩=some (.pointer (some ⟨P db.length,0,none⟩)):=by rw[hK.cell (p:=⟨bk,db.length,none⟩) U9 (fun q=>q)];exact LZ
   have HP:∀w1,I aq wr w1->Calls prog 19 #[.pointer (some ⟨P db.length,0,none⟩),.pointer a] w1 fun e w'=>∃pb,e=.returned (.pointer (some ⟨pb,0,none⟩))/\wr.heap.size<=pb/\pb<w'.heap.size/\ay w' pb (uY (.pointer (some ⟨P db.length,0,none⟩)) (bo n.aJ[db.length]) (.pointer a) (.slice none 0 0) (.slice none 0 0)) 118/\I aq wr w':=fun w1 mC=>by
    refine(aez (lU.kept (hK.trans mC) (fun _ _ q=>q)) (.pointer a) ⟨a,rfl⟩).mono ?_;rintro e w' ⟨wd,rfl,aG,hs,rfl⟩;have:=mC.size;exact⟨wd.heap.size,rfl,by omega,by rw[cR];omega,ay.new _ _ _,(mC.trans aG).alloc _⟩
   have Qj:(db.length:Int)<(n.aJ.length:Int):=(by omega);clear LZ lU;go_wp2_with fail;go_region_with (go_at_call 19;refine(HP _ (by first|exact I.refl _ _|exact(I.refl _ _).drew)).mono ?_;rintro e w2 ⟨pb,rfl,s_,hpu,Ji,aG⟩)
   all_goals
    have oJ:=aG.size;have xt:=dh HO.out aG (fun _ _ q=>q);have aqF:db.length<=400:=(by omega);go_wp2_with (at_builtin;refine Ad _ rfl _ _ 115 rfl w.heap.size 66 i0 _ 1 8 underlying115 b_ cE cI cH rfl (by decide) _ _ _ rfl (xt.alloc _) ⟨w2.heap.size,0,none⟩ 1 1 [kG pb] rfl rfl (vF _ _ _) (by intro u hu;simp at hu;subst hu;rfl) (by unfold maxLen;omega) (by omega) (by rw[cR];omega) ?_);intro v' w3 a8 aX cJ bH;obtain⟨s1,s2,s3⟩:=ahl HO.out HN.out hK aG ar s_ Ji a8 aX;clear a8 aX cJ bH xt Ji HP;go_wp2_with fail;go_roundg (n.aJ.length-(db.length+1))
    case measure=>omega
    case rel=>exact⟨db.length+1,db++[pb],by omega,by go_num,by simp,rfl,s1,s2,s3⟩
  ·have ai_:db.length=n.aJ.length:=by omega
   obtain⟨G',q1,q2,q3,q4,q5⟩:=du.ZQ (vm:=.pointer a) (S:=S) h (h.kept hK) hm db.length db rfl HN.out.1 HN.out.2.1 (fun i hi=>⟨(qy.out i hi).1,(qy.out i hi).2,by
    obtain⟨_,T,lU⟩:=HF.out.sh i hi;exact⟨P i,T,rfl,lU.kept hK (fun _ _ q=>q)⟩⟩)
   have gA:∀k,u3.ownBlock=some k->¬G'.mu k:=fun k hk q=>by
    rcases q4 k q with q|q
    ·have:=h.lt k q;have:=(cA HO.out hk).1;omega
    ·obtain⟨i,hi,rfl⟩:=List.mem_iff_getElem.1 q;exact XK HO.out (HN.out.1.2 i hi (by omega)).2 hk
   obtain⟨tb,fV,zs,jb,hL⟩:=lJ.many HL.out ai_ (by omega) (by omega) HO.out q5 gA;have kf:I (fun j=>j=b) w wr:=hK.mono (fun _ q=>q.elim);have aqz:¬((db.length:Int)<(n.aJ.length:Int)):=(by omega);rw[jb];clear gA HO HN jb;go_wp2_with fail;go_ret;exact⟨G',q1,q2,kf,_,rfl,Or.inr ⟨tb,fV,zs,rfl,hL⟩⟩
theorem cV.zh(hn:c.n=none)(h:cV x S i (xU x gs c.bK i) ts r):cV x (c::S) i gs ts r:=by
 obtain⟨f,e⟩:=h;refine⟨f+1,?_⟩;unfold eo;rw[hn];exact e
theorem u_{f:Nat}(hn:c.n=some n):eo x (f+1) (c::S) i gs ts=
 (if n.op=eR then(if decide (i<x.l.length)&&q8 n (x.dd i)then eo x f S (i+1) gs ts else some none)
   else if n.op=ec then
    if c.bR=true/\ts.head?=some i then some none
    else
     let to0:=if c.bR then ts.tail else ts
     let more:=eo x f S i gs to0
     let inner:=gh ((cF n c S).map fun Z=>eo x f Z i gs (if c.bB<=0/\c.aY<0 then i::to0 else to0))
     if 0<c.bB then inner
     else if c.aY=0 then more
     else if n.lz then gh [more,inner]
     else gh [inner,more]
   else if n.op=iJ\/n.op=iI\/n.op=fi\/n.op=gW then
    gh ((cF n c S).map fun Z=>eo x f Z i (if n.op=fi then qm x gs n.bK i else gs) ts)
   else if x.is n.op i then eo x f S i gs ts else some none):=by
 conv=>lhs;unfold eo
 rw[hn]
theorem cV.take(hn:c.n=some n)(ho:n.op=eR)(hi:i<x.l.length)(ht:q8 n (x.dd i)=true)(h:cV x S (i+1) gs ts r):cV x (c::S) i gs ts r:=by
 obtain⟨f,e⟩:=h;refine⟨f+1,?_⟩;rw[u_ hn,if_pos ho,if_pos (by simp[hi,ht])];exact e
theorem cV.afp(hn:c.n=some n)(ho:n.op=eR)(h:¬(i<x.l.length/\q8 n (x.dd i)=true)):cV x (c::S) i gs ts none:=by
 refine⟨1,?_⟩;rw[u_ hn,if_pos ho,if_neg (by simpa using h)]
theorem adH(ho:n.op=pM\/n.op=oX\/n.op=od\/n.op=oW):n.op≠eR/\n.op≠ec/\¬(n.op=iJ\/n.op=iI\/n.op=fi\/n.op=gW):=by
 rcases ho with e|e|e|e<;>rw[e]<;>decide
theorem cV.is(hn:c.n=some n)(ho:n.op=pM\/n.op=oX\/n.op=od\/n.op=oW)(hi:x.is n.op i=true)(h:cV x S i gs ts r):cV x (c::S) i gs ts r:=by
 obtain⟨f,e⟩:=h;obtain⟨o1,o2,o3⟩:=adH ho;refine⟨f+1,?_⟩;rw[u_ hn,if_neg o1,if_neg o2,if_neg o3,if_pos hi];exact e
theorem cV.akn(hn:c.n=some n)(ho:n.op=pM\/n.op=oX\/n.op=od\/n.op=oW)(hi:x.is n.op i=false):cV x (c::S) i gs ts none:=by
 obtain⟨o1,o2,o3⟩:=adH ho;refine⟨1,?_⟩;rw[u_ hn,if_neg o1,if_neg o2,if_neg o3,if_neg (by rw[hi];simp)]
def lK(x:TX)(i:Nat)(gs:List Int)(ts:List Nat):List (List CI)->Option (Nat×List Int)->Prop
 | [],r=>r=none
 |Z::l,r=>(∃p,cV x Z i gs ts (some p)/\r=some p)\/(cV x Z i gs ts none/\lK x i gs ts l r)
theorem lK.mm:∀{l:List (List CI)} {r:Option (Nat×List Int)},lK x i gs ts l r->∃f,∀h,f<=h->gh (l.map fun Z=>eo x h Z i gs ts)=some r
 | [],r,e=>⟨0,fun h _=>by rw[show r=none from e];rfl⟩
 |Z::l,r,e=>by
  rcases e with⟨p,⟨f,e1⟩,e2⟩|⟨⟨f,e1⟩,e2⟩
  ·refine⟨f,fun h hh=>?_⟩;subst e2;simp only[Bt];rw[Pv hh e1];rfl
  ·obtain⟨f',e3⟩:=lK.mm e2;refine⟨max f f',fun h hh=>?_⟩;simp only[Bt];rw[Pv (by omega) e1];exact e3 h (by omega)
theorem lK.skip:∀{A B:List (List CI)} {r:Option (Nat×List Int)},(∀Z∈A,cV x Z i gs ts none)->lK x i gs ts B r->lK x i gs ts (A++B) r
 | [],_,_,_,h=>h
 |Z::A,B,r,ha,h=>Or.inr ⟨ha Z Aq,lK.skip (fun Y hY=>ha Y (Ar _ hY)) h⟩
theorem lK.one(h:cV x Z i gs ts r):lK x i gs ts [Z] r:=by
 cases r with
 |none=>exact Or.inr ⟨h,rfl⟩
 |some p=>exact Or.inl ⟨p,h,rfl⟩
theorem cV.Rb(hn:c.n=some n)(ho:n.op=iJ\/n.op=iI\/n.op=fi\/n.op=gW)(h:lK x i (if n.op=fi then qm x gs n.bK i else gs) ts (cF n c S) r):cV x (c::S) i gs ts r:=by
 obtain⟨f,e⟩:=h.mm;have o1:n.op≠eR/\n.op≠ec:=by rcases ho with e|e|e|e<;>rw[e]<;>decide
 refine⟨f+1,?_⟩;rw[u_ hn,if_neg o1.1,if_neg o1.2,if_pos ho];exact e f (Aa _)
theorem cV.aoS(hn:c.n=some n)(ho:n.op=ec)(ht:c.bR=true)(hh:ts.head?=some i):cV x (c::S) i gs ts none:=by
 refine⟨1,?_⟩;rw[u_ hn,if_neg (by rw[ho];decide),if_pos ho,if_pos ⟨ht,hh⟩]
theorem cV.bB(hn:c.n=some n)(ho:n.op=ec)(hh:¬(c.bR=true/\ts.head?=some i))(hl:0<c.bB)
 (h:lK x i gs (if c.bR then ts.tail else ts) (cF n c S) r):cV x (c::S) i gs ts r:=by
 obtain⟨f,e⟩:=h.mm;refine⟨f+1,?_⟩;rw[u_ hn,if_neg (by rw[ho];decide),if_pos ho,if_neg hh];simp only;rw[if_pos hl];have:=e f (Aa _);rw[if_neg (by omega:¬(c.bB<=0/\c.aY<0))];exact this
theorem cV.Nu(hn:c.n=some n)(ho:n.op=ec)(hh:¬(c.bR=true/\ts.head?=some i))(hl:¬0<c.bB)(hm:c.aY=0)
 (h:cV x S i gs (if c.bR then ts.tail else ts) r):cV x (c::S) i gs ts r:=by
 obtain⟨f,e⟩:=h;refine⟨f+1,?_⟩;rw[u_ hn,if_neg (by rw[ho];decide),if_pos ho,if_neg hh];simp only;rw[if_neg hl,if_pos hm];exact e
def ML(c:CI)(i:Nat)(ts:List Nat):List Nat:=if c.bB<=0/\c.aY<0 then i::(if c.bR then ts.tail else ts)else(if c.bR then ts.tail else ts)
theorem abb{a b:Option (Option α)}{p q:Option α}(ha:a=some p)(hb:b=some q):gh [a,b]=some (match p with|some r=>some r|none=>q):=by
 subst ha;subst hb
 cases p with
 |none=>cases q<;>rfl
 |some r=>rfl
theorem aa9{a b:Option (Option α)}{r:α}(ha:a=some (some r)):gh [a,b]=some (some r):=by subst ha;rfl
theorem cV.aiJ(hn:c.n=some n)(ho:n.op=ec)(hh:¬(c.bR=true/\ts.head?=some i))(hl:¬0<c.bB)(hm:c.aY≠0)(hz:n.lz=false)
 (h:lK x i gs (ML c i ts) (cF n c S) (some p)):cV x (c::S) i gs ts (some p):=by
 obtain⟨f,e⟩:=h.mm;refine⟨f+1,?_⟩;rw[u_ hn,if_neg (by rw[ho];decide),if_pos ho,if_neg hh];simp only;rw[if_neg hl,if_neg hm,if_neg (by rw[hz];simp)];exact aa9 (e f (Aa _))
theorem cV.aiK(hn:c.n=some n)(ho:n.op=ec)(hh:¬(c.bR=true/\ts.head?=some i))(hl:¬0<c.bB)(hm:c.aY≠0)(hz:n.lz=false)
 (h:lK x i gs (ML c i ts) (cF n c S) none)(h2:cV x S i gs (if c.bR then ts.tail else ts) r):cV x (c::S) i gs ts r:=by
 obtain⟨f,e⟩:=h.mm;obtain⟨f',e'⟩:=h2;refine⟨max f f'+1,?_⟩;rw[u_ hn,if_neg (by rw[ho];decide),if_pos ho,if_neg hh];simp only;rw[if_neg hl,if_neg hm,if_neg (by rw[hz];simp)];exact abb (e _ (Nat.le_max_left _ _)) (Pv (Nat.le_max_right f f') e')
theorem cV.akP(hn:c.n=some n)(ho:n.op=ec)(hh:¬(c.bR=true/\ts.head?=some i))(hl:¬0<c.bB)(hm:c.aY≠0)(hz:n.lz=true)
 (h:cV x S i gs (if c.bR then ts.tail else ts) (some p)):cV x (c::S) i gs ts (some p):=by
 obtain⟨f,e⟩:=h;refine⟨f+1,?_⟩;rw[u_ hn,if_neg (by rw[ho];decide),if_pos ho,if_neg hh];simp only;rw[if_neg hl,if_neg hm,if_pos hz];exact aa9 e
theorem cV.akQ(hn:c.n=some n)(ho:n.op=ec)(hh:¬(c.bR=true/\ts.head?=some i))(hl:¬0<c.bB)(hm:c.aY≠0)(hz:n.lz=true)
 (h2:cV x S i gs (if c.bR then ts.tail else ts) none)(h:lK x i gs (ML c i ts) (cF n c S) r):cV x (c::S) i gs ts r:=by
 obtain⟨f,e⟩:=h.mm;obtain⟨f',e'⟩:=h2;refine⟨max f f'+1,?_⟩;rw[u_ hn,if_neg (by rw[ho];decide),if_pos ho,if_neg hh];simp only;rw[if_neg hl,if_neg hm,if_pos hz];exact abb (Pv (Nat.le_max_right f f') e') (e _ (Nat.le_max_left _ _))
def BM(E:EG):Prop:=∀(w:World) (G:GH) (b:Nat) (c:CI) (S:List CI) (n:RT),du w G E->G.T b=some (c::S)->c.n=some n->
 Calls prog 65 #[.pointer (some ⟨b,0,none⟩)] w (xL w G E b n c S)
theorem du.X6(h:du w G E)(hb:G.T b=some (c::S))(hn:c.n=some n)(hv:v=.slice none 0 0\/∃tb cap zs,v=.slice (some ⟨tb,0,none⟩) zs.length cap/\lJ w G n c S tb zs):du (w.setCell ⟨b,6,none⟩ v) G E:=by
 obtain⟨c',S',vn,vm,vt,dQ,e,bC,iX,aM⟩:=h.ct b _ hb
 cases e;have hk:I (fun j=>j=b) w (w.setCell ⟨b,6,none⟩ v):=(I.refl (fun j=>j=b) w).setCell (p:=⟨b,6,none⟩) (Or.inl rfl) _
 have xd:∀j,j=b->G.mu j:=fun j hj=>by subst hj;exact Or.inl (by rw[hb];simp)
 have ho:∀j i,G.O j=some (b,i)->¬j=b:=fun j i hj e=>by
  subst e;have:=h.po j (by rw[hb];simp);rw[hj]at this;simp at this
 refine h.Sm (X:=fun j=>j=b) (vn:=vn) (vm:=vm) (vt:=v) (dQ:=dQ) hb (ef.refl w G) (fun _=>rfl) (fun _ _=>rfl) (fun j hj hq=>by have:=h.lt j (Or.inr hq);omega) hk (fun j hj=>Or.inl hj) ⟨aM.ae.setCell 6 v,aM.node.kept hk (fun i hi q=>h.um i hi (xd i q)),aM.more,?_,aM.no.ext (ef.refl w G) rfl h.lt hk (fun j i hj=>ho j i hj)⟩;rcases hv with q|⟨tb,cap,zs,q1,q2⟩
 ·exact Or.inl q
 ·exact Or.inr ⟨n,tb,cap,zs,hn,q1,q2.ext (ef.refl w G) h.lt hk xd⟩
structure ee(w:World)(G:GH)(E:EG)(S:List CI)(i:Nat)(gs:List Int)(ts:List Nat)(vc:Value)(ag:Option Addr)(gb cg:Nat)(at_:Option Addr)(tb ct:Nat):Prop where
 aV:du w G E
 st:gQ G vc S
 ok:mg E.K S
 deep:Deep E.D S
 il:i<=E.x.l.length
 sB:oo i ts
 qu:ts.length=tc S
 vS:ts.length<=E.D
 rg:fL w ag gb gs
 gl:gs.length=3*E.K
 gc:gs.length<=cg
 gm:gs≠ []->¬G.mu gb
 rt:fL w at_ tb (jW ts)
 tm:ts≠ []->¬G.mu tb
 pQ:ts.length<=ct
 tz:at_=none->ct=0
 dl:E.D<=5000
 kl:E.K<=300
def To(w:World)(G:GH)(E:EG)(gs:List Int)(e:Ending):Option (Nat×List Int)->Prop
 |none=>e=.returned (.tuple #[.int .i64 0,.slice none 0 0,.bool false])
 |some p=>∃ao gb cap,e=.returned (.tuple #[.int .i64 p.1,.slice ao p.2.length cap,.bool true])/\fL w ao gb p.2/\p.2.length=gs.length/\p.2.length<=cap/\(p.2≠ []->¬G.mu gb)/\p.1<=E.x.l.length
def mh(w:World)(G:GH)(w':World):Prop:=∀b,G.T b≠none->w.cell? ⟨b,6,none⟩≠some (.slice none 0 0)->w'.cell? ⟨b,6,none⟩≠some (.slice none 0 0)
theorem mh.one(ar:∀k,G.mu k->k<w.heap.size)(k:I (fun j=>j=b) w w')(h:w.cell? ⟨b,6,none⟩=some (.slice none 0 0)\/w'.cell? ⟨b,6,none⟩≠some (.slice none 0 0)):mh w G w':=fun j hj aF=>by
 by_cases e:j=b
 ·subst e;rcases h with h|h
  ·exact absurd h aF
  ·exact h
 ·rw[k.cell (p:=⟨j,6,none⟩) (ar j (Or.inl hj)) e];exact aF
theorem mh.quiet(ar:∀k,G.mu k->k<w.heap.size)(k:I aq w w'):mh w G w':=fun j hj aF=>by
 rw[k.cell (p:=⟨j,6,none⟩) (ar j (Or.inl hj)) (fun q=>q)];exact aF
theorem mh.trans(ar:∀k,G.mu k->k<w.heap.size)(he:ef w G G1)(h1:mh w G w1)(h2:mh w1 G1 w'):mh w G w':=fun j hj aF=>
 h2 j (by rw[(he j (ar j (Or.inl hj))).1];exact hj) (h1 j hj aF)
structure KS(G:GH)(w w':World):Prop where
 kept:I G.mu w w'
 stay:mh w G w'
def y7(i:Nat)(S:List CI)(m M:Nat):Prop:=∀ts,oo i ts->ts.length=tc S->tN ts i=m->wS i S ts<M
def afU(G G':GH)(i M:Nat):Prop:=∀b S,G.T b=some S->∀j m,j<=i->m∈G'.N b j->m∈G.N b j\/(j=i/\y7 i S m M)
structure j0(w:World)(G G':GH)(i M:Nat):Prop where
 jt:ef w G G'
 vH:afU G G' i M
theorem j0.refl(w:World)(G:GH)(i M:Nat):j0 w G G i M:=⟨ef.refl w G,fun b S _ j m _ h=>Or.inl h⟩
theorem Ext.m(h:Ext w G G')(ar:∀k,G.mu k->k<w.heap.size):j0 w G G' i M:=⟨h.jt,fun b S hb j m _ hm=>by
 rw[(h b (ar b (Or.inl (by rw[hb];simp)))).2.2]at hm;exact Or.inl hm⟩
theorem j0.call(h:j0 w G G' i' M')(hM:i<i'\/(i'=i/\M'<=M)):j0 w G G' i M:=⟨h.jt,fun b S hb j m hj hm=>by
 rcases h.vH b S hb j m (by omega) hm with q|⟨q1,q2⟩
 ·exact Or.inl q
 ·rcases hM with hM|⟨e,hM⟩
  ·omega
  ·subst e;exact Or.inr ⟨q1,fun ts a1 a2 a3=>A3 (q2 ts a1 a2 a3) hM⟩⟩
theorem j0.trans(h:j0 w G G1 i M)(h':j0 w1 G1 G2 i M)(hs:w.heap.size<=w1.heap.size)(ar:∀k,G.mu k->k<w.heap.size):j0 w G G2 i M:=⟨h.jt.trans h'.jt hs,fun b S hb j m hj hm=>by
 rcases h'.vH b S (by rw[(h.jt b (ar b (Or.inl (by rw[hb];simp)))).1];exact hb) j m hj hm with q|q
 ·exact h.vH b S hb j m hj q
 ·exact Or.inr q⟩
def dV(M:Nat)(w:World)(G:GH)(E:EG)(S:List CI)(i:Nat)(gs:List Int)(ts:List Nat)(e:Ending)(w':World):Prop:=
 ∃G' r,cV E.x S i gs ts r/\du w' G' E/\j0 w G G' i M/\KS G w w'/\To w' G' E gs e r
def BlE(E:EG)(i m:Nat):Prop:=∀(w:World) (G:GH) (S:List CI) (i':Nat) (gs:List Int) (ts:List Nat) (vc:Value) (ag:Option Addr) (gb cg:Nat) (at_:Option Addr) (tb ct:Nat),ee w G E S i' gs ts vc ag gb cg at_ tb ct->(i<i'\/(i'=i/\wS i S ts<m))->
 Calls prog 20 #[.pointer (some ⟨E.xb,0,none⟩),vc,.int .i64 i',.slice ag gs.length cg,.slice at_ ts.length ct] w (dV (wS i' S ts+1) w G E S i' gs ts)
theorem ee.M_(h:ee w G E S i gs ts vc ag gb cg at_ tb ct)(hi:du w' G' E)(he:ef w G G')(k:I X w w')(hx:∀j,X j->G.mu j):ee w' G' E S i gs ts vc ag gb cg at_ tb ct:=
 {h with
  aV:=hi
  st:=h.st.ext he h.aV.lt
  rg:=h.rg.kept k (fun aF q=>h.gm aF (hx _ q))
  gm:=fun aF q=>h.gm aF ((he.mu (h.rg.ig aF).2).1 q)
  rt:=h.rt.kept k (fun aF q=>h.tm (by intro e;subst e;exact aF rfl) (hx _ q))
  tm:=fun aF q=>h.tm aF ((he.mu (h.rt.ig (by intro e;have:=uN ts;rw[e]at this;simp at this;exact aF (Az.1 this.symm))).2).1 q)}
theorem ee.later(h:ee w G E S i gs ts vc ag gb cg at_ tb ct)(hi:du w' G' E)(he:Ext w G G')(k:I X w w')(hx:∀j,X j->G.mu j):ee w' G' E S i gs ts vc ag gb cg at_ tb ct:=h.M_ hi he.jt k hx
theorem ee.head(h:ee w G E (c::S) i gs ts (.pointer (some ⟨b,0,none⟩)) ag gb cg at_ tb ct):G.T b=some (c::S):=by
 rcases h.st with⟨e,_⟩|⟨b',e,h'⟩
 ·simp at e
 ·cases e;exact h'
theorem ee.im(h:ee w G E (c::S) i gs ts vc ag gb cg at_ tb ct)(ht:c.bR=false)(hm:gQ G vm S)(hi:i'=i\/i'=i+1)(lx:i'<=E.x.l.length)
 (rg:fL w rz gi dc)(gl:dc.length=3*E.K)(gc:dc.length<=rH)(gm:dc≠ []->¬G.mu gi):ee w G E S i' dc ts vm rz gi rH at_ tb ct:=
 {h with
  st:=hm
  ok:=fun d hd=>h.ok d (Ar _ hd)
  deep:=h.deep.2
  il:=lx
  sB:=by
   rcases hi with e|e
   ·rw[e];exact h.sB
   ·rw[e];exact h.sB.next
  qu:=by have:=h.qu;simp only[tc,ht,Ag,if_false]at this;omega
  rg:=rg
  gl:=gl
  gc:=gc
  gm:=gm}
theorem dV.from(h:dV M' w1 G1 E S' i' dc gY e w')(ar:∀k,G.mu k->k<w.heap.size)(he:j0 w G G1 i M)(hk:KS G w w1)(hM:i<i'\/(i'=i/\M'<=M))(hl:dc.length=gs.length)(hr:∀r,cV E.x S' i' dc gY r->cV E.x S i gs ts r):dV M w G E S i gs ts e w':=by
 obtain⟨G',r,q1,q2,q3,q4,q5⟩:=h;have hs:=hk.kept.size;refine⟨G',r,hr r q1,q2,he.trans (q3.call hM) hs ar,⟨hk.kept.bY q4.kept (fun j hj hq=>?_),hk.stay.trans ar he.jt q4.stay⟩,?_⟩
 ·exact(he.jt.mu hj).1 hq
 ·cases r with
  |none=>exact q5
  |some p=>
   obtain⟨ao,gb,cap,r1,r2,r3,r4,r5,r6⟩:=q5;exact⟨ao,gb,cap,r1,r2,r3.trans hl,r4,r5,r6⟩
theorem dV.later(h:dV M' w1 G1 E S' i' dc gY e w')(ar:∀k,G.mu k->k<w.heap.size)(he:Ext w G G1)(k:I X w w1)(hx:∀j,X j->G.mu j)(cS:mh w G w1)(hM:i<i'\/(i'=i/\M'<=M))(hl:dc.length=gs.length)(hr:∀r,cV E.x S' i' dc gY r->cV E.x S i gs ts r):dV M w G E S i gs ts e w':=
 h.from ar (he.m ar) ⟨k.mono hx,cS⟩ hM hl hr
theorem ee.als(h:ee w G E (c::S) i gs ts vc ag gb cg at_ tb ct)(hn:c.n=some n)(ho:n.op≠ec):c.bR=false:=by
 have hc:=h.ok c Aq;unfold CI.ok at hc;rw[hn]at hc
 cases e:c.bR
 ·rfl
 ·exact absurd (hc.2.1 e).1 ho
theorem ee.JE(h:ee w G E (c::S) i gs ts vc ag gb cg at_ tb ct)(hn:c.n=some n):n.ok E.K:=by
 have hc:=h.ok c Aq;unfold CI.ok at hc;rw[hn]at hc;exact hc.1
theorem ee.laid(h:ee w G E (c::S) i gs ts vc ag gb cg at_ tb ct)(hn:c.n=some n)(ho:n.op≠ec)(hL:lJ w G n c S lb zs)(k:Nat)(hk:k<zs.length)(dL:k<(cF n c S).length)
 (rg:fL w rz gi dc)(gl:dc.length=3*E.K)(gc:dc.length<=rH)(gm:dc≠ []->¬G.mu gi):ee w G E (cF n c S)[k] i dc ts zs[k] rz gi rH at_ tb ct:=by
 have hm:=Ay dL;have h1:=zT hn (h.ok c Aq) (fun d hd=>h.ok d (Ar _ hd)) h.deep _ hm;have h2:=ac8 (c:=c) (S:=S) (h.JE hn) _ hm;rw[if_neg (fun q=>ho q.1)]at h2;have h3:=h.qu;have h4:=h.als hn ho
 exact{h with
  st:=hL.st k hk dL
  ok:=h1.1
  deep:=h1.2
  qu:=by simp only[tc,h4,Ag,if_false]at h3;omega
  rg:=rg
  gl:=gl
  gc:=gc
  gm:=gm}
structure lj(w w2:World)(G G2:GH)(E:EG)(b:Nat)(c:CI)(S:List CI)(n:RT)(nb lb lc:Nat)(vm:Value)(zs:List Value):Prop where
 aV:du w2 G2 E
 ext:Ext w G G2
 kept:I (fun j=>j=b) w w2
 laid:lJ w2 G2 n c S lb zs
 ae:∃dQ,ay w2 b (uY (.pointer (some ⟨nb,0,none⟩)) c vm (.slice (some ⟨lb,0,none⟩) zs.length lc) dQ) 118
 more:gQ G2 vm S
 node:∃ao bk cap P,Ic w2 E.U nb n ao bk cap P
 nd:∃T,eV w2 E.U nb T n
 stay:mh w G w2
theorem lj.Qa(h:du w G E)(hb:G.T b=some (c::S))(hn:c.n=some n){dQ:Value}(aM:tH w G E b c S (.pointer (some ⟨nb,0,none⟩)) vm (.slice (some ⟨lb,0,none⟩) zs.length lc) dQ)(hL:lJ w G n c S lb zs):lj w w G G E b c S n nb lb lc vm zs:=by
 have DK:=aM.node;rw[hn]at DK;obtain⟨Nm,T,e,dM⟩:=DK
 cases e;exact⟨h,Ext.refl w G,I.refl _ _,hL,⟨dQ,aM.ae⟩,aM.more,dM.parts,⟨T,dM⟩,mh.quiet h.lt (I.refl _ _)⟩
theorem lj.after(h:du w G E)(hb:G.T b=some (c::S))(hn:c.n=some n)(aF:cF n c S≠ [])(eC:du w1 G1 E)(iM:Ext w G G1)(iO:I (fun j=>j=b) w w1)
 (hv:(cF n c S=[]/\v=.slice none 0 0)\/∃tb cap zs,v=.slice (some ⟨tb,0,none⟩) zs.length cap/\lJ w1 G1 n c S tb zs):
 ∃nb lb lc vm vt zs,v=.slice (some ⟨lb,0,none⟩) zs.length lc/\lj w (w1.setCell ⟨b,6,none⟩ v) G G1 E b c S n nb lb lc vm zs/\w1.cell? ⟨b,0,none⟩=some (.pointer (some ⟨nb,0,none⟩))/\w1.cell? ⟨b,5,none⟩=some vm/\w1.cell? ⟨b,6,none⟩=some vt/\w1.frozen? ⟨b,6,none⟩=false/\
  w1.cell? ⟨nb,0,none⟩=some (.string n.op)/\nb≠b/\lb≠b/\(∀k,(hk:k<zs.length)->w1.cell? ⟨lb,k,none⟩=some zs[k]):=by
 rcases hv with⟨e,_⟩|⟨lb,lc,zs,rfl,hL⟩
 ·exact absurd e aF
 ·have jl:G.mu b:=Or.inl (by rw[hb];simp);have ji:=h.lt b jl;have iP:G1.T b=some (c::S):=by rw[(iM b ji).1];exact hb
  have vw:G1.mu b:=Or.inl (by rw[iP];simp);obtain⟨vm,vt,dQ,nb,ao,bk,cap,P,_,_,aM,hF⟩:=eC.open iP hn;have tW:=eC.X6 (v:=.slice (some ⟨lb,0,none⟩) zs.length lc) iP hn (Or.inr ⟨lb,lc,zs,rfl,hL⟩);have k2:I (fun j=>j=b) w1 (w1.setCell ⟨b,6,none⟩ (.slice (some ⟨lb,0,none⟩) zs.length lc)):=(I.refl (fun j=>j=b) w1).setCell (p:=⟨b,6,none⟩) (Or.inl rfl) _;have xd:∀j,j=b->G1.mu j:=fun j hj=>by subst hj;exact vw
  have DK:=aM.node.kept k2 (fun j hj q=>eC.um j hj (xd j q));rw[hn]at DK;obtain⟨Nm,T,e,dM⟩:=DK
  cases e;refine⟨nb,lb,lc,vm,vt,zs,rfl,⟨tW,iM,iO.trans k2,hL.ext (ef.refl w1 G1) eC.lt k2 xd,⟨dQ,aM.ae.setCell 6 _⟩,aM.more,dM.parts,⟨T,dM⟩,mh.one h.lt (iO.trans k2) (Or.inr (by have:=(aM.ae.setCell 6 (.slice (some ⟨lb,0,none⟩) zs.length lc)).cell 6;rw[show _=_ from this];simp[uY]))⟩,aM.ae.cell 0,aM.ae.cell 5,aM.ae.cell 6,aM.ae.frozen 6,hF.op,fun e=>?_,fun e=>?_,hL.cell⟩
  ·subst e;exact eC.um nb hF.u vw
  ·subst e;exact hL.mu vw
theorem akF(h:du w G E)(hb:G.T b=some (c::S))(hn:c.n=some n):
 Calls prog 65 #[.pointer (some ⟨b,0,none⟩)] w (xL w G E b n c S):=by
 obtain⟨vm,vt,dQ,nb,ao,bk,cap,P,bC,iX,aM,hF⟩:=h.open hb hn;have nO:=bC c Aq;have ap2:=nO;unfold CI.ok at nO;rw[hn]at nO;rcases RT.z8 nO.1 with q|q|q|q|q|q|q
 ·exact ac6 h hb hn (Or.inl q)
 ·exact ac6 h hb hn (Or.inr q)
 ·exact akI h hb hn q
 ·exact akE h hb hn q.1 q.2
 ·exact akH h hb hn q.1 q.2.1
 ·exact akG h hb hn q.1 q.2
 ·by_cases hl:0<c.bB
  ·exact ac5 h hb hn q.1 q.2 (Or.inl hl)
  ·by_cases hm:0<c.aY
   ·exact ac5 h hb hn q.1 q.2 (Or.inr hm)
   ·cases ht:c.bR
    ·exact akJ h hb hn q.1 q.2 hl hm ht
    ·exact akK h hb hn q.1 q.2 hl hm ht
theorem akD(E:EG):BM E:=fun _ _ _ _ _ _ h hb hn=>akF h hb hn
theorem aoM(mX:BM E)(h:ee w G E (c::S) i gs ts (.pointer (some ⟨b,0,none⟩)) ag gb cg at_ tb ct)(hB:BlE E i (wS i (c::S) ts))(hn:c.n=some n)(bS:n.op=eR):
 Calls prog 38 #[.pointer (some ⟨E.xb,0,none⟩),.pointer (some ⟨b,0,none⟩),.int .i64 i,.slice ag gs.length cg,.slice at_ ts.length ct] w (dV (wS i (c::S) ts) w G E (c::S) i gs ts):=by
 have hb:=h.head;obtain⟨vm,vt,dQ,nb,ao,bk,cap,P,bC,iX,aM,hF⟩:=h.aV.open hb hn;have c0:w.cell? ⟨b,0,none⟩=some (.pointer (some ⟨nb,0,none⟩)):=aM.ae.cell 0;have c6:w.cell? ⟨b,6,none⟩=some vt:=aM.ae.cell 6;have f6:=aM.ae.frozen 6
 have lZ:vt=.slice none 0 0:=by
  rcases aM.next with q|⟨n',q9,fV,zs,q1,q2,q3⟩
  ·exact q
  ·rw[hn]at q1
   cases q1;have hl:=q3.len
   have hp:=q3.pos;rw[xn (Or.inl bS)]at hl;simp only[A8]at hl;omega
 rw[lZ]at c6;have HL:=mX w G b c S n h.aV hb hn;go_in;go_wp2_with fail;refine HL.mono ?_;rintro e w1 ⟨G1,eC,iM,iO,v,rfl,hv⟩
 have wZ:v=.slice none 0 0:=by
  rcases hv with⟨_,q⟩|⟨q9,fV,zs,q1,q2⟩
  ·exact q
  ·have hl:=q2.len;have hp:=q2.pos;rw[xn (Or.inl bS)]at hl;simp only[A8]at hl;omega
 rw[wZ];clear hv wZ;have jl:G.mu b:=Or.inl (by rw[hb];simp);have ji:=h.aV.lt b jl;have iP:G1.T b=some (c::S):=by rw[(iM b ji).1];exact hb
 have vw:G1.mu b:=Or.inl (by rw[iP];simp);obtain⟨mN,rj,AU,lE,zb,TE,xS,P1,_,_,nP,wI⟩:=eC.open iP hn;have tW:=eC.X6 (v:=.slice none 0 0) iP hn (Or.inl rfl);have k2:I (fun j=>j=b) w1 (w1.setCell ⟨b,6,none⟩ (.slice none 0 0)):=(I.refl (fun j=>j=b) w1).setCell (p:=⟨b,6,none⟩) (Or.inl rfl) _;have qT:=iO.trans k2;have vf:=h.later tW iM qT (fun j hj=>by subst hj;exact jl);have g6:=nP.ae.frozen 6;have e6:w1.cell? ⟨b,6,none⟩=some rj:=nP.ae.cell 6;have e0:w1.cell? ⟨b,0,none⟩=some (.pointer (some ⟨lE,0,none⟩)):=nP.ae.cell 0;have e5:w1.cell? ⟨b,5,none⟩=some mN:=nP.ae.cell 5;have n0:w1.cell? ⟨lE,0,none⟩=some (.string ⟨#[114,117,110,101]⟩):=by have:=wI.op;rw[bS]at this;exact this
 have jO:lE≠b:=fun e=>by subst e;exact eC.um lE wI.u vw
 have Wi:E.xb≠b:=fun e=>eC.sC.1 (by rw[e];exact vw)
 have x0:w1.cell? ⟨E.xb,0,none⟩=some (.slice E.ao E.x.l.length E.cap):=eC.tx.ae.cell 0;have dg:=eC.tx.cB;have lx:=h.il
 obtain⟨T0,dM⟩:∃T0,eV (w1.setCell ⟨b,6,none⟩ (.slice none 0 0)) E.U lE T0 n:=by
  have:=nP.node.kept k2 (fun j hj q=>by subst q;exact eC.um j hj vw);rw[hn]at this;obtain⟨Nm,T0,e,dM⟩:=this
  cases e;exact⟨T0,dM⟩
 have DI:gQ G1 mN S:=nP.more
 have oN:c.bR=false:=by
  have hc:=h.ok c Aq;unfold CI.ok at hc;rw[hn]at hc
  cases e:c.bR
  ·rfl
  ·have:=(hc.2.1 e).1;rw[bS]at this;exact absurd this (by decide)
 have UO:=nP.ae;clear aM hF nP wI;by_cases ar:i<E.x.l.length
 ·have hI:(i:Int)<(E.x.l.length:Int):=by omega
  obtain⟨eu,_,gj⟩:=eC.tx.gl.isSome (by intro e;rw[e]at ar;simp at ar);have ap1:E.bl≠b:=fun e=>eC.sC.2 (by intro e;rw[e]at ar;simp at ar) (by rw[e];exact vw)
  rw[eu]at x0
  have xi:w1.cell? ⟨E.bl,i*3,none⟩=some (.int .i64 (E.x.dd i)):=by
   have:=(eC.tx.gl.cells i ar).1;rw[this];unfold TX.dd;simp[ar]
  have QC:0<=E.x.dd i/\E.x.dd i<=1200000:=by
   obtain⟨p,hp,e⟩:=E.x.anl i ar;rw[e];exact eC.tx.rr p hp
  have HT:=af2 dM (E.x.dd i) QC;clear eu;go_wp2_with fail;refine HT.mono ?_;rintro e w3 ⟨rfl,aQ⟩;have iN:=tW.kept aQ;have kE:I (fun j=>j=b) w w3:=qT.trans (aQ.mono (fun _ q=>q.elim));have mW:=vf.later iN (Ext.refl _ G1) aQ (fun _ q=>q.elim)
  cases rY:q8 n (E.x.dd i)
  ·have HR:Hid (cV E.x (c::S) i gs ts none):=cV.afp hn bS (fun q=>by rw[rY]at q;exact absurd q.2 (by simp));go_wp2_with fail;go_ret3;exact⟨G1,none,HR.out,iN,iM.m h.aV.lt,⟨kE.mono (fun j hj=>by subst hj;exact jl),mh.one h.aV.lt kE (Or.inl c6)⟩,rfl⟩
  ·have e5':w3.cell? ⟨b,5,none⟩=some mN:=by
    have Gz:b<(w1.setCell ⟨b,6,none⟩ (.slice none 0 0)).heap.size:=by rw[fx];have:=iO.size;omega
    rw[aQ.cell (p:=⟨b,5,none⟩) Gz (fun q=>q)];have:=(ay.setCell (b:=b) UO 6 (.slice none 0 0)).cell 5;exact this
   have HC:=hB w3 G1 S (i+1) gs ts mN ag gb cg at_ tb ct (mW.im oN DI (Or.inr rfl) (by omega) mW.rg mW.gl mW.gc mW.gm) (Or.inl (by omega));have Kx:Hid (∀r,cV E.x S (i+1) gs ts r->cV E.x (c::S) i gs ts r):=(fun r hr=>cV.take hn bS ar rY hr);have rU:((i+1:Nat):Int)=(i:Int)+1:=(by omega);rw[rU]at HC;clear rU;go_wp2_with fail;refine HC.mono ?_;rintro e w4 hP;have tZ:=hP.later (S:=c::S) (i:=i) (gs:=gs) (ts:=ts) h.aV.lt iM kE (fun j hj=>by subst hj;exact jl) (mh.one h.aV.lt kE (Or.inl c6)) (M:=wS i (c::S) ts) (Or.inl (by omega)) rfl Kx.out;obtain⟨G4,r,q1,q2,q3,q4,q5⟩:=tZ
   cases r with
   |none=>
    obtain rfl:=q5;go_wp2_with fail;go_ret3;exact⟨G4,none,q1,q2,q3,q4,rfl⟩
   |some p=>
    obtain⟨eP,mV,lP,rfl,r2,r3,r4,r5,r6⟩:=q5;go_wp2_with fail;go_ret3;exact⟨G4,some p,q1,q2,q3,q4,eP,mV,lP,by rw[r3];rfl,r2,r3,r4,r5,r6⟩
 ·have hI:¬(i:Int)<(E.x.l.length:Int):=by omega
  have HR:Hid (cV E.x (c::S) i gs ts none):=cV.afp hn bS (fun q=>ar q.1);go_wp2_with fail;go_ret3;exact⟨G1,none,HR.out,tW,iM.m h.aV.lt,⟨qT.mono (fun j hj=>by subst hj;exact jl),mh.one h.aV.lt qT (Or.inl c6)⟩,rfl⟩
theorem RU(h:ee w G E (c::S) i gs ts (.pointer (some ⟨b,0,none⟩)) ag gb cg at_ tb ct)(hB:BlE E i (wS i (c::S) ts))(hn:c.n=some n)(ho:n.op=iJ\/n.op=gW)(hl:cF n c S=[Z])(hR:lj w w2 G G2 E b c S n nb lb lc vm zs):
 ∃z0,zs=[z0]/\(∀w3,I aq w2 w3->Calls prog 20 #[.pointer (some ⟨E.xb,0,none⟩),z0,.int .i64 i,.slice ag gs.length cg,.slice at_ ts.length ct] w3 (dV (wS i (c::S) ts) w G E (c::S) i gs ts)):=by
 have dA:=hR.laid.len;rw[hl]at dA;obtain⟨z0,rfl⟩:=Db.1 dA;refine⟨z0,rfl,fun w3 aQ=>?_⟩;have DM:n.op≠ec:=by rcases ho with e|e<;>rw[e]<;>decide
 have jl:G.mu b:=Or.inl (by rw[h.head];simp);have iN:=hR.aV.kept aQ;have kE:I (fun j=>j=b) w w3:=hR.kept.trans (aQ.mono (fun _ q=>q.elim));have mW:=h.later iN hR.ext kE (fun j hj=>by subst hj;exact jl);have UU:=hR.laid.ext (ef.refl w2 G2) hR.aV.lt aQ (fun _ q=>q.elim);have hZ:=mW.laid hn DM UU 0 (by simp) (by rw[hl];simp) mW.rg mW.gl mW.gc mW.gm;have e0:(cF n c S)[0]'(by rw[hl];simp)=Z:=by simp[hl]
 rw[e0]at hZ;have DF:=WH (S:=S) (i:=i) (ts:=ts) hn (h.ok c Aq) DM Z (by rw[hl];simp);refine(hB w3 G2 Z i gs ts _ ag gb cg at_ tb ct hZ (Or.inr ⟨rfl,DF⟩)).mono ?_;rintro e w4 hP;refine hP.later h.aV.lt hR.ext kE (fun j hj=>by subst hj;exact jl) (hR.stay.trans h.aV.lt hR.ext.jt (mh.quiet hR.aV.lt aQ)) (Or.inr ⟨rfl,DF⟩) rfl (fun r hr=>?_);refine cV.Rb hn (by rcases ho with e|e;exact Or.inl e;exact Or.inr (Or.inr (Or.inr e))) ?_;rw[hl,if_neg (by rcases ho with e|e<;>rw[e]<;>decide)];exact lK.one hr
theorem aoO(h:ee w G E (c::S) i gs ts (.pointer (some ⟨b,0,none⟩)) ag gb cg at_ tb ct)(hB:BlE E i (wS i (c::S) ts))(hn:c.n=some n)(ho:n.op=iJ)(hl:cF n c S=[Z])(hR:lj w w G G E b c S n nb lb lc vm zs):
 Calls prog 38 #[.pointer (some ⟨E.xb,0,none⟩),.pointer (some ⟨b,0,none⟩),.int .i64 i,.slice ag gs.length cg,.slice at_ ts.length ct] w (dV (wS i (c::S) ts) w G E (c::S) i gs ts):=by
 obtain⟨z0,rfl,HC⟩:=RU h hB hn (by first|exact Or.inl ho|exact Or.inr ho) hl hR;obtain⟨dQ,dq⟩:=hR.ae;obtain⟨ao,bk,cap,P,hF⟩:=hR.node;have c0:w.cell? ⟨b,0,none⟩=some (.pointer (some ⟨nb,0,none⟩)):=dq.cell 0;have c6:w.cell? ⟨b,6,none⟩=some (.slice (some ⟨lb,0,none⟩) 1 lc):=dq.cell 6;have n0:w.cell? ⟨nb,0,none⟩=some (.string ⟨#[115,101,113]⟩):=by have:=hF.op;rw[ho]at this;exact this
 have l0:w.cell? ⟨lb,0,none⟩=some z0:=hR.laid.cell 0 (by simp);clear hR hF dq;go_in;go_wp2_with fail;refine(HC _ (I.refl _ _)).mono ?_;rintro e w4 ⟨G4,r,q1,q2,q3,q4,q5⟩
 cases r with
 |none=>
  obtain rfl:=q5;go_wp2_with fail;go_ret3;exact⟨G4,none,q1,q2,q3,q4,rfl⟩
 |some p=>
  obtain⟨eP,mV,lP,rfl,r2,r3,r4,r5,r6⟩:=q5;go_wp2_with fail;go_ret3;exact⟨G4,some p,q1,q2,q3,q4,eP,mV,lP,by rw[r3];rfl,r2,r3,r4,r5,r6⟩
theorem aoN(mX:BM E)(h:ee w G E (c::S) i gs ts (.pointer (some ⟨b,0,none⟩)) ag gb cg at_ tb ct)(hB:BlE E i (wS i (c::S) ts))(hn:c.n=some n)(ho:n.op=iJ)(hl:cF n c S=[Z]):
 Calls prog 38 #[.pointer (some ⟨E.xb,0,none⟩),.pointer (some ⟨b,0,none⟩),.int .i64 i,.slice ag gs.length cg,.slice at_ ts.length ct] w (dV (wS i (c::S) ts) w G E (c::S) i gs ts):=by
 have hb:=h.head;obtain⟨vm,vt,dQ,nb,ao,bk,cap,P,bC,iX,aM,hF⟩:=h.aV.open hb hn;rcases aM.next with lZ|⟨n',lb,lc,zs,q1,lZ,q3⟩
 ·have c0:w.cell? ⟨b,0,none⟩=some (.pointer (some ⟨nb,0,none⟩)):=aM.ae.cell 0;have c6:w.cell? ⟨b,6,none⟩=some vt:=aM.ae.cell 6;rw[lZ]at c6;have HL:=mX w G b c S n h.aV hb hn;clear aM hF;go_in;go_wp2_with fail;refine HL.mono ?_;rintro e w1 ⟨G1,eC,iM,iO,v,rfl,hv⟩;obtain⟨lE,jo,mE,mN,rj,vU,nf,hR,a0,a5,a6,af,an,jO,qi,ki⟩:=lj.after h.aV hb hn (by rw[hl];simp) eC iM iO hv;rw[nf]at hR⊢;obtain⟨z0,rfl,HC⟩:=RU h hB hn (by first|exact Or.inl ho|exact Or.inr ho) hl hR;rw[ho]at an;have n0:w1.cell? ⟨lE,0,none⟩=some (.string ⟨#[115,101,113]⟩):=an;have l0:w1.cell? ⟨jo,0,none⟩=some z0:=ki 0 (by simp);clear hR ki an hv nf HL;go_wp2_with fail;refine(HC _ (I.refl _ _)).mono ?_;rintro e w4 ⟨G4,r,q1,q2,q3,q4,q5⟩
  cases r with
  |none=>
   obtain rfl:=q5;go_wp2_with fail;go_ret3;exact⟨G4,none,q1,q2,q3,q4,rfl⟩
  |some p=>
   obtain⟨eP,mV,lP,rfl,r2,r3,r4,r5,r6⟩:=q5;go_wp2_with fail;go_ret3;exact⟨G4,some p,q1,q2,q3,q4,eP,mV,lP,by rw[r3];rfl,r2,r3,r4,r5,r6⟩
 ·rw[hn]at q1
  cases q1;rw[lZ]at aM
  exact aoO h hB hn ho hl (lj.Qa h.aV hb hn aM q3)
theorem aoH(h:ee w G E (c::S) i gs ts (.pointer (some ⟨b,0,none⟩)) ag gb cg at_ tb ct)(hB:BlE E i (wS i (c::S) ts))(hn:c.n=some n)(ho:n.op=gW)(hl:cF n c S=[Z])(hR:lj w w G G E b c S n nb lb lc vm zs):
 Calls prog 38 #[.pointer (some ⟨E.xb,0,none⟩),.pointer (some ⟨b,0,none⟩),.int .i64 i,.slice ag gs.length cg,.slice at_ ts.length ct] w (dV (wS i (c::S) ts) w G E (c::S) i gs ts):=by
 obtain⟨z0,rfl,HC⟩:=RU h hB hn (by first|exact Or.inl ho|exact Or.inr ho) hl hR;obtain⟨dQ,dq⟩:=hR.ae;obtain⟨ao,bk,cap,P,hF⟩:=hR.node;have c0:w.cell? ⟨b,0,none⟩=some (.pointer (some ⟨nb,0,none⟩)):=dq.cell 0;have c6:w.cell? ⟨b,6,none⟩=some (.slice (some ⟨lb,0,none⟩) 1 lc):=dq.cell 6;have n0:w.cell? ⟨nb,0,none⟩=some (.string ⟨#[98,97,114,101]⟩):=by have:=hF.op;rw[ho]at this;exact this
 have l0:w.cell? ⟨lb,0,none⟩=some z0:=hR.laid.cell 0 (by simp);clear hR hF dq;go_in;go_wp2_with fail;refine(HC _ (I.refl _ _)).mono ?_;rintro e w4 ⟨G4,r,q1,q2,q3,q4,q5⟩
 cases r with
 |none=>
  obtain rfl:=q5;go_wp2_with fail;go_ret3;exact⟨G4,none,q1,q2,q3,q4,rfl⟩
 |some p=>
  obtain⟨eP,mV,lP,rfl,r2,r3,r4,r5,r6⟩:=q5;go_wp2_with fail;go_ret3;exact⟨G4,some p,q1,q2,q3,q4,eP,mV,lP,by rw[r3];rfl,r2,r3,r4,r5,r6⟩
theorem aoG(mX:BM E)(h:ee w G E (c::S) i gs ts (.pointer (some ⟨b,0,none⟩)) ag gb cg at_ tb ct)(hB:BlE E i (wS i (c::S) ts))(hn:c.n=some n)(ho:n.op=gW)(hl:cF n c S=[Z]):
 Calls prog 38 #[.pointer (some ⟨E.xb,0,none⟩),.pointer (some ⟨b,0,none⟩),.int .i64 i,.slice ag gs.length cg,.slice at_ ts.length ct] w (dV (wS i (c::S) ts) w G E (c::S) i gs ts):=by
 have hb:=h.head;obtain⟨vm,vt,dQ,nb,ao,bk,cap,P,bC,iX,aM,hF⟩:=h.aV.open hb hn;rcases aM.next with lZ|⟨n',lb,lc,zs,q1,lZ,q3⟩
 ·have c0:w.cell? ⟨b,0,none⟩=some (.pointer (some ⟨nb,0,none⟩)):=aM.ae.cell 0;have c6:w.cell? ⟨b,6,none⟩=some vt:=aM.ae.cell 6;rw[lZ]at c6;have HL:=mX w G b c S n h.aV hb hn;clear aM hF;go_in;go_wp2_with fail;refine HL.mono ?_;rintro e w1 ⟨G1,eC,iM,iO,v,rfl,hv⟩;obtain⟨lE,jo,mE,mN,rj,vU,nf,hR,a0,a5,a6,af,an,jO,qi,ki⟩:=lj.after h.aV hb hn (by rw[hl];simp) eC iM iO hv;rw[nf]at hR⊢;obtain⟨z0,rfl,HC⟩:=RU h hB hn (by first|exact Or.inl ho|exact Or.inr ho) hl hR;rw[ho]at an;have n0:w1.cell? ⟨lE,0,none⟩=some (.string ⟨#[98,97,114,101]⟩):=an;have l0:w1.cell? ⟨jo,0,none⟩=some z0:=ki 0 (by simp);clear hR ki an hv nf HL;go_wp2_with fail;refine(HC _ (I.refl _ _)).mono ?_;rintro e w4 ⟨G4,r,q1,q2,q3,q4,q5⟩
  cases r with
  |none=>
   obtain rfl:=q5;go_wp2_with fail;go_ret3;exact⟨G4,none,q1,q2,q3,q4,rfl⟩
  |some p=>
   obtain⟨eP,mV,lP,rfl,r2,r3,r4,r5,r6⟩:=q5;go_wp2_with fail;go_ret3;exact⟨G4,some p,q1,q2,q3,q4,eP,mV,lP,by rw[r3];rfl,r2,r3,r4,r5,r6⟩
 ·rw[hn]at q1
  cases q1;rw[lZ]at aM
  exact aoH h hB hn ho hl (lj.Qa h.aV hb hn aM q3)
theorem aoL(mX:BM E)(h:ee w G E (c::S) i gs ts (.pointer (some ⟨b,0,none⟩)) ag gb cg at_ tb ct)(hB:BlE E i (wS i (c::S) ts))(hn:c.n=some n)(bS:n.op=pM\/n.op=oX\/n.op=od\/n.op=oW):
 Calls prog 38 #[.pointer (some ⟨E.xb,0,none⟩),.pointer (some ⟨b,0,none⟩),.int .i64 i,.slice ag gs.length cg,.slice at_ ts.length ct] w (dV (wS i (c::S) ts) w G E (c::S) i gs ts):=by
 have hb:=h.head;obtain⟨vm,vt,dQ,nb,ao,bk,cap,P,bC,iX,aM,hF⟩:=h.aV.open hb hn;have c0:w.cell? ⟨b,0,none⟩=some (.pointer (some ⟨nb,0,none⟩)):=aM.ae.cell 0;have c6:w.cell? ⟨b,6,none⟩=some vt:=aM.ae.cell 6;have f6:=aM.ae.frozen 6
 have lZ:vt=.slice none 0 0:=by
  rcases aM.next with q|⟨n',q9,fV,zs,q1,q2,q3⟩
  ·exact q
  ·rw[hn]at q1
   cases q1;have hl:=q3.len
   have hp:=q3.pos;rw[xn (Or.inr bS)]at hl;simp only[A8]at hl;omega
 rw[lZ]at c6;have HL:=mX w G b c S n h.aV hb hn;go_in;go_wp2_with fail;refine HL.mono ?_;rintro e w1 ⟨G1,eC,iM,iO,v,rfl,hv⟩
 have wZ:v=.slice none 0 0:=by
  rcases hv with⟨_,q⟩|⟨q9,fV,zs,q1,q2⟩
  ·exact q
  ·have hl:=q2.len;have hp:=q2.pos;rw[xn (Or.inr bS)]at hl;simp only[A8]at hl;omega
 rw[wZ];clear hv wZ;have jl:G.mu b:=Or.inl (by rw[hb];simp);have ji:=h.aV.lt b jl;have iP:G1.T b=some (c::S):=by rw[(iM b ji).1];exact hb
 have vw:G1.mu b:=Or.inl (by rw[iP];simp);obtain⟨mN,rj,AU,lE,zb,TE,xS,P1,_,_,nP,wI⟩:=eC.open iP hn;have tW:=eC.X6 (v:=.slice none 0 0) iP hn (Or.inl rfl);have k2:I (fun j=>j=b) w1 (w1.setCell ⟨b,6,none⟩ (.slice none 0 0)):=(I.refl (fun j=>j=b) w1).setCell (p:=⟨b,6,none⟩) (Or.inl rfl) _;have qT:=iO.trans k2;have vf:=h.later tW iM qT (fun j hj=>by subst hj;exact jl);have g6:=nP.ae.frozen 6;have e6:w1.cell? ⟨b,6,none⟩=some rj:=nP.ae.cell 6;have e0:w1.cell? ⟨b,0,none⟩=some (.pointer (some ⟨lE,0,none⟩)):=nP.ae.cell 0;have e5:w1.cell? ⟨b,5,none⟩=some mN:=nP.ae.cell 5;have n0:w1.cell? ⟨lE,0,none⟩=some (.string n.op):=wI.op;have s1:(n.op.toList== [114,117,110,101])=false:=by rcases bS with e|e|e|e<;>rw[e,A0]<;>decide
 have s2:(n.op.toList== [115,101,113])=false:=by rcases bS with e|e|e|e<;>rw[e,A0]<;>decide
 have s3:(n.op.toList== [98,97,114,101])=false:=by rcases bS with e|e|e|e<;>rw[e,A0]<;>decide
 have s4:(n.op.toList== [97,108,116])=false:=by rcases bS with e|e|e|e<;>rw[e,A0]<;>decide
 have s5:(n.op.toList== [103,114,111,117,112])=false:=by rcases bS with e|e|e|e<;>rw[e,A0]<;>decide
 have s6:(n.op.toList== [116,105,109,101,115])=false:=by rcases bS with e|e|e|e<;>rw[e,A0]<;>decide
 have jO:lE≠b:=fun e=>by subst e;exact eC.um lE wI.u vw
 have Wi:E.xb≠b:=fun e=>eC.sC.1 (by rw[e];exact vw)
 have x0:w1.cell? ⟨E.xb,0,none⟩=some (.slice E.ao E.x.l.length E.cap):=eC.tx.ae.cell 0;have dg:=eC.tx.cB;have lx:=h.il
 obtain⟨T0,dM⟩:∃T0,eV (w1.setCell ⟨b,6,none⟩ (.slice none 0 0)) E.U lE T0 n:=by
  have:=nP.node.kept k2 (fun j hj q=>by subst q;exact eC.um j hj vw);rw[hn]at this;obtain⟨Nm,T0,e,dM⟩:=this
  cases e;exact⟨T0,dM⟩
 have DI:gQ G1 mN S:=nP.more
 have oN:c.bR=false:=by
  have hc:=h.ok c Aq;unfold CI.ok at hc;rw[hn]at hc
  cases e:c.bR
  ·rfl
  ·have:=(hc.2.1 e).1;rw[this]at bS;exact absurd bS (by decide)
 have UO:=nP.ae;clear aM hF nP wI;have HT:=akm tW.tx n.op i bS lx
 have HW:Hid (wS i S ts<wS i (c::S) ts):=by
  have:=Sn (i:=i) (c:=c) (S:=S) (ts:=ts);rw[oN]at this;exact this
 go_wp2_with fail
 refine HT.mono ?_;rintro e w3 ⟨rfl,aQ⟩;have iN:=tW.kept aQ;have kE:I (fun j=>j=b) w w3:=qT.trans (aQ.mono (fun _ q=>q.elim));have mW:=vf.later iN (Ext.refl _ G1) aQ (fun _ q=>q.elim)
 cases rY:E.x.is n.op i
 ·have HR:Hid (cV E.x (c::S) i gs ts none):=cV.akn hn bS rY;go_wp2_with fail;go_ret3;exact⟨G1,none,HR.out,iN,iM.m h.aV.lt,⟨kE.mono (fun j hj=>by subst hj;exact jl),mh.one h.aV.lt kE (Or.inl c6)⟩,rfl⟩
 ·have e5':w3.cell? ⟨b,5,none⟩=some mN:=by
   have Gz:b<(w1.setCell ⟨b,6,none⟩ (.slice none 0 0)).heap.size:=by rw[fx];have:=iO.size;omega
   rw[aQ.cell (p:=⟨b,5,none⟩) Gz (fun q=>q)];have:=(ay.setCell (b:=b) UO 6 (.slice none 0 0)).cell 5;exact this
  have HC:=hB w3 G1 S i gs ts mN ag gb cg at_ tb ct (mW.im oN DI (Or.inl rfl) lx mW.rg mW.gl mW.gc mW.gm) (Or.inr ⟨rfl,HW.out⟩);have Kx:Hid (∀r,cV E.x S i gs ts r->cV E.x (c::S) i gs ts r):=fun r hr=>cV.is hn bS rY hr
  go_wp2_with fail
  refine HC.mono ?_;rintro e w4 hP;have tZ:=hP.later (S:=c::S) (i:=i) (gs:=gs) (ts:=ts) h.aV.lt iM kE (fun j hj=>by subst hj;exact jl) (mh.one h.aV.lt kE (Or.inl c6)) (M:=wS i (c::S) ts) (Or.inr ⟨rfl,HW.out⟩) rfl Kx.out;obtain⟨G4,r,q1,q2,q3,q4,q5⟩:=tZ
  cases r with
  |none=>
   obtain rfl:=q5;go_wp2_with fail;go_ret3;exact⟨G4,none,q1,q2,q3,q4,rfl⟩
  |some p=>
   obtain⟨eP,mV,lP,rfl,r2,r3,r4,r5,r6⟩:=q5;go_wp2_with fail;go_ret3;exact⟨G4,some p,q1,q2,q3,q4,eP,mV,lP,by rw[r3];rfl,r2,r3,r4,r5,r6⟩
theorem TJ{xb bl:Nat}{ao:Option Addr}{cap:Nat}(h:wm w xb bl ao cap x)(i:Nat):
 Calls prog 21 #[.pointer (some ⟨xb,0,none⟩),.int .i64 i] w fun e w'=>e=.returned (.int .i64 (x.eX i))/\w'=w:=by
 have c0:w.cell? ⟨xb,0,none⟩=some (.slice ao x.l.length cap):=h.ae.cell 0;have c1:w.cell? ⟨xb,1,none⟩=some (.int .i64 x.len):=h.ae.cell 1;by_cases ar:i<x.l.length
 ·have hI:(i:Int)<(x.l.length:Int):=by omega
  obtain⟨eu,_,_⟩:=h.gl.isSome (by intro e;rw[e]at ar;simp at ar);rw[eu]at c0;have q1:=(h.gl.cells i ar).2;have HE:Hid (x.eX i=(x.l[i].1:Int)):=by show _=_;unfold TX.eX;simp[ar]
  clear eu;go_in;go_wp2_with fail;go_ret;exact⟨by rw[HE.out];rfl,rfl⟩
 ·have hI:¬(i:Int)<(x.l.length:Int):=by omega
  have HE:Hid (x.eX i=(x.len:Int)):=by show _=_;unfold TX.eX;simp[ar]
  go_in
  go_wp2_with fail
  go_ret
  exact⟨by rw[HE.out];rfl,rfl⟩
theorem aoI(h:ee w G E (c::S) i gs ts (.pointer (some ⟨b,0,none⟩)) ag gb cg at_ tb ct)(hB:BlE E i (wS i (c::S) ts))(hn:c.n=none):
 Calls prog 38 #[.pointer (some ⟨E.xb,0,none⟩),.pointer (some ⟨b,0,none⟩),.int .i64 i,.slice ag gs.length cg,.slice at_ ts.length ct] w (dV (wS i (c::S) ts) w G E (c::S) i gs ts):=by
 have hb:=h.head;obtain⟨c',S',vn,vm,vt,dQ,e,bC,iX,aM⟩:=h.aV.ct b _ hb
 cases e;have fK:=aM.node
 rw[hn]at fK;have c0:w.cell? ⟨b,0,none⟩=some (.pointer none):=by have:=aM.ae.cell 0;rw[show vn=.pointer none from fK]at this;exact this
 obtain⟨m,DH,DI,ud,oN⟩:∃m:Nat,1<=m/\m<=E.K/\c.bK=m/\c.bR=false:=by
  have hc:=bC c Aq;unfold CI.ok at hc;rw[hn]at hc;exact⟨c.bK.toNat,by omega,by omega,by omega,hc.2.2⟩
 have c3:w.cell? ⟨b,3,none⟩=some (.int .i64 m):=by have:=aM.ae.cell 3;rw[<-ud];exact this
 have c5:w.cell? ⟨b,5,none⟩=some vm:=aM.ae.cell 5;have jz:=h.gl;have wQ:=h.kl;have ajb:gs≠ []:=by intro e;rw[e]at jz;simp at jz;omega
 obtain⟨hag,kj⟩:=h.rg.ig ajb;obtain⟨fv,Mb⟩:∃fv,(gs[gs.length/3*2+m-1]?).getD 0=fv:=⟨_,rfl⟩
 have cg0:w.cell? ⟨gb,E.K*2+m-1,none⟩=some (.int .i64 fv):=by
  have I3:E.K*2+m-1<gs.length:=by omega
  rw[h.rg.cell _ I3,<-Mb,show gs.length/3*2+m-1=E.K*2+m-1 from by omega,Ab I3];rfl
 have Wb:(E.K:Int)*2+m-1<(gs.length:Int):=by omega
 have qi:(0:Int)<=(E.K:Int)*2+m-1:=by omega
 have htn:((E.K:Int)*2+m-1).toNat=E.K*2+m-1:=by omega
 have hg9:gs.length<=900:=by omega
 have hd:Int.tdiv (gs.length:Int) 3=E.K:=by rw[jz,show((3*E.K:Nat):Int)=3*(E.K:Int)from by omega];exact D5 _ (by decide)
 have Ot:Hid (gs.length=3*E.K):=jz;clear jz;have rg:=h.rg;subst hag;go_in;have N1:=Rs (cap:=cg) rg (2*m-2) fv (by omega) (by omega) h.gc;rw[show((2*m-2:Nat):Int)=2*(m:Int)-2 from by omega]at N1;go_wp2_with fail;refine N1.mono ?_;rintro e w1 ⟨gb1,xS,rfl,yf,uc,VT,aI⟩;have eC:=h.aV.kept aI;have ji:=h.aV.lt b (Or.inl (by rw[hb];simp));have d3:w1.cell? ⟨b,3,none⟩=some (.int .i64 m):=by rw[aI.cell (p:=⟨b,3,none⟩) ji (fun q=>q)];exact c3
 have BD:=fun w2 (hk:I aq w1 w2)=>TJ (eC.kept hk).tx i
 have nT:(gs.set (2*m-2) fv).length=gs.length:=by simp
 have N2:=fun w2 (hk:I aq w1 w2)=>Rs (w:=w2) (cap:=xS) (VT.kept hk (fun _ q=>q)) (2*m-1) (E.x.eX i) (by rw[nT];omega) (by rw[nT];omega) (by rw[nT];exact yf)
 rw[show((2*m-1:Nat):Int)=2*(m:Int)-1 from by omega]at N2;simp only[nT]at N2
 have YX:Hid ((gs.set (2*m-2) fv).set (2*m-1) (E.x.eX i)=xU E.x gs c.bK i):=by
  show _=_
  unfold xU;rw[ud,Cj,Mb]
 have HM:Hid (gQ G vm S):=aM.more
 have HW:Hid (wS i S ts<wS i (c::S) ts):=by
  have:=Sn (i:=i) (c:=c) (S:=S) (ts:=ts);rw[oN]at this;exact this
 have Kj:Hid (∀w2,I aq w1 w2->Calls prog 21 #[.pointer (some ⟨E.xb,0,none⟩),.int .i64 i] w2 fun e w'=>e=.returned (.int .i64 (E.x.eX i))/\w'=w2):=BD
 have Fk:Hid (∀w2,I aq w1 w2->Calls prog 64 #[.slice (some ⟨gb1,0,none⟩) gs.length xS,.int .i64 (IntKind.i64.wrap (IntKind.i64.wrap (2*(m:Int))-1)),.int .i64 (E.x.eX i)] w2 fun e w'=>∃gi fV,e=.returned (.slice (some ⟨gi,0,none⟩) gs.length fV)/\gs.length<=fV/\w2.heap.size<=gi/\fL w' (some ⟨gi,0,none⟩) gi ((gs.set (2*m-2) fv).set (2*m-1) (E.x.eX i))/\I aq w2 w'):=fun w2 hk=>by
  rw[show IntKind.i64.wrap (IntKind.i64.wrap (2*(m:Int))-1)=2*(m:Int)-1 from by rw[Dr (2*(m:Int)) (by omega) (by omega)];exact Dr _ (by omega) (by omega)];exact N2 w2 hk
 have HA:Hid (ee w G E (c::S) i gs ts (.pointer (some ⟨b,0,none⟩)) (some ⟨gb,0,none⟩) gb cg at_ tb ct):=h;have Ki:Hid (BlE E i (wS i (c::S) ts)):=hB;have HGN:Hid (c.bK=m):=ud;generalize E.x.eX i=bd at*;clear nT N1 aM fK Mb BD N2 h hB rg VT eC bC iX ud c0 c3 cg0 Wb qi htn hd;go_wp2_with fail;go_region_with (first|(go_at_call 21;refine(Kj.out _ (by first|exact I.refl _ _|exact(I.refl _ _).drew)).mono ?_;rintro e w2 ⟨rfl,rfl⟩)|(go_at_call 64;refine(Fk.out _ (by first|exact I.refl _ _|exact(I.refl _ _).drew)).mono ?_;rintro e w3 ⟨sM,FM,rfl,wM,py,kC,aG⟩;have zN:I aq w1 w3:=(by first|exact aG|exact(I.refl aq w1).drew.trans aG);have acg:w1.heap.size<=sM:=py))
 all_goals
  have k3:=aI.trans zN;have iN:=HA.out.aV.kept k3;have mW:=HA.out.later iN (Ext.refl w G) k3 (fun _ q=>q.elim);rw[YX.out]at kC;have DG:(xU E.x gs c.bK i).length=gs.length:=by rw[<-YX.out];simp
  have e5:w3.cell? ⟨b,5,none⟩=some vm:=by rw[k3.cell (p:=⟨b,5,none⟩) ji (fun q=>q)];exact c5
  have HC:=Ki.out w3 G S i (xU E.x gs c.bK i) ts vm (some ⟨sM,0,none⟩) sM FM at_ tb ct (mW.im oN HM.out (Or.inl rfl) HA.out.il kC (by rw[DG];exact Ot.out) (by rw[DG];exact wM) (fun _ q=>by have:=HA.out.aV.lt sM q;have:=aI.size;omega)) (Or.inr ⟨rfl,HW.out⟩);rw[DG]at HC;have Kx:Hid (∀r,cV E.x S i (xU E.x gs c.bK i) ts r->cV E.x (c::S) i gs ts r):=fun r hr=>cV.zh hn hr
  have Fj:Hid ((xU E.x gs c.bK i).length=gs.length):=DG;clear DG kC;go_wp2_with fail;refine HC.mono ?_;rintro e w4 hP;have tZ:=hP.later (S:=c::S) (i:=i) (gs:=gs) (ts:=ts) HA.out.aV.lt (Ext.refl w G) k3 (fun j hj=>hj.elim) (mh.quiet HA.out.aV.lt k3) (M:=wS i (c::S) ts) (Or.inr ⟨rfl,HW.out⟩) Fj.out Kx.out;obtain⟨G4,r,q1,q2,q3,q4,q5⟩:=tZ
  cases r with
  |none=>
   obtain rfl:=q5;go_wp2_with fail;go_ret3;exact⟨G4,none,q1,q2,q3,q4,rfl⟩
  |some p=>
   obtain⟨eP,mV,lP,rfl,r2,r3,r4,r5,r6⟩:=q5;go_wp2_with fail;go_ret3;exact⟨G4,some p,q1,q2,q3,q4,eP,mV,lP,by rw[r3];rfl,r2,r3,r4,r5,r6⟩
end Go.Proofs.YtmbpfhlnifdhgaaGreatDoor
