/- The reader of th -/
import Derived.Test.YtpdnofhackjfdaaGreatDoorP01
set_option linter.all false
set_option maxRecDepth 100000
set_option maxHeartbeats 1000000
namespace Go.Proofs.YtpdnofhackjfdaaGreatDoor
open Go.Proofs.Tryz
open Go.RowKit Go.Maps
variable {fo:Bool} {g:RG} {st:RS} {w:World}
theorem yg(h:aV w g fo st)(s:ByteArray)(l:List UInt8)(hl:s.data.toList=l)(hs:∀b∈l,b.toNat<128):
 Calls prog 107 #[BT g.b 0,.string s] w fun e w'=>e=.returned (.bool (aK l (aC g st)))/\aV w' g fo st/\aa g.ay w w':=by
 subst hl;exact(OH h s hs).mono fun e w' ⟨he,hk⟩=>⟨he,h.nil hk,hk.mono (fun _ hx=>hx.elim)⟩
theorem nY(h:aV w g fo st):
 Calls prog 57 #[BT g.b 0] w fun e w'=>e=.returned (.int .i32 (aC g st))/\aV w' g fo st/\aa g.ay w w':=
 (OF h).mono fun e w' ⟨he,hk⟩=>⟨he,h.nil hk,hk.mono (fun _ hx=>hx.elim)⟩
theorem Su(h:aV w g fo st):
 Calls prog 84 #[BT g.b 0] w fun e w'=>e=.returned (GW (rB g st))/\aV w' g fo st/\aa g.ay w w':=
 (aeJ h).mono fun e w' ⟨he,hk⟩=>⟨he,h.nil hk,hk.mono (fun _ hx=>hx.elim)⟩
theorem jz(h:aV w g fo st)(s:ByteArray)(l:List UInt8)(hl:s.data.toList=l)(hs:∀b∈l,b.toNat<128)(hy:aK l (aC g st)=true):
 Calls prog 83 #[BT g.b 0,.string s] w fun e w'=>e=.returned (.bool true)/\aV w' g fo {st with next:=st.next+1}/\aa g.ay w w':=by
 subst hl;exact YQ h s hs hy
theorem jf(h:aV w g fo st)(s:ByteArray)(l:List UInt8)(hl:s.data.toList=l)(hs:∀b∈l,b.toNat<128)(hy:aK l (aC g st)=false):
 Calls prog 83 #[BT g.b 0,.string s] w fun e w'=>e=.returned (.bool false)/\aV w' g fo st/\aa g.ay w w':=by
 subst hl;exact YP h s hs hy
theorem Tb(h:aV w g fo st)(s:ByteArray)(l:List UInt8)(hl:s.data.toList=l)(hs:∀b∈l,b.toNat<128):
 Calls prog 83 #[BT g.b 0,.string s] w fun e w'=>e=.returned (.bool (aK l (aC g st)))/\aV w' g fo (fG g l st)/\aa g.ay w w':=by
 subst hl;exact apl h s hs
theorem tH(h:aV w g fo st)(s:ByteArray)(l:List UInt8)(hl:s.data.toList=l)(hs:∀b∈l,b.toNat<128):
 Calls prog 163 #[BT g.b 0,.string s] w fun e w'=>e=.returned (.tuple #[])/\aV w' g fo (eY g l st)/\aa g.ay w w':=by
 subst hl;exact alY h s hs
theorem adD(h:aV w g fo st)(s:ByteArray)(l:List UInt8)(hl:s.data.toList=l)(hs:∀b∈l,b.toNat<128):
 Calls prog 136 #[BT g.b 0,.string s] w fun e w'=>e=.returned (.int .i32 (aC g st))/\aV w' g fo (qp g l st)/\aa g.ay w w':=by
 subst hl;exact alW h s hs
theorem Sm(g:RG)(st:RS):0<=(jx g st).2/\(jx g st).2<=9:=by
 unfold jx
 cases h:aK wF (aC g st)
 ·simp
 ·have:=Xg h;simp;omega
theorem Qy(h:aV w g fo st):
 Calls prog 184 #[BT g.b 0] w fun e w'=>e=.returned (GW (jx g st).2)/\aV w' g fo (jx g st).1/\aa g.ay w w':=by
 unfold jx
 cases hy:aK wF (aC g st)
 ·go_in
  go_wp2_with fail
  refine(nY h).mono ?_;rintro e w1 ⟨rfl,h1,aU⟩;go_wp2_with fail;refine(jf h1 _ wF (by rfl) (by decide) hy).mono ?_;rintro e w2 ⟨rfl,h2,aS⟩;go_wp2_with fail;refine(Oy h2).mono ?_;rintro e w3 ⟨rfl,h3,bm⟩;go_wp2_with fail;go_ret;exact⟨rfl,h3,(aU.trans aS).trans bm⟩
 ·have hd:=Xg hy;go_in;go_wp2_with fail;refine(nY h).mono ?_;rintro e w1 ⟨rfl,h1,aU⟩;go_wp2_with fail;refine(jz h1 _ wF (by rfl) (by decide) hy).mono ?_;rintro e w2 ⟨rfl,h2,aS⟩;obtain⟨d,G6,th,Q_⟩:∃d:Int,aC g st=d+48/\0<=d/\d<=9:=⟨aC g st-48,by omega,by omega,by omega⟩
  have HD:Hid (aC g st=d+48):=G6;rw[G6];clear hd G6 hy;go_wp2_with fail;go_ret;exact⟨by rw[HD.o];simp,h2,aU.trans aS⟩
theorem Sc(h:aV w g fo st):
 Calls prog 162 #[BT g.b 0] w fun e w'=>e=.returned (GW (fL g st).2)/\aV w' g fo (fL g st).1/\aa g.ay w w':=by
 have r1:=Sm g st;have r2:=Sm g (jx g st).1;unfold fL;by_cases hp:0<(jx g st).2
 ·cases hy:aK wF (aC g (jx g st).1)
  ·rw[if_neg (by simp)];go_in;go_wp2_with fail;refine(Qy h).mono ?_;rintro e w1 ⟨rfl,h1,aU⟩;go_wp2_with fail;refine(yg h1 _ wF (by rfl) (by decide)).mono ?_;rintro e w2 ⟨rfl,h2,aS⟩;rw[hy];go_wp2_with fail;go_ret;exact⟨rfl,h2,aU.trans aS⟩
  ·rw[if_pos ⟨hp,rfl⟩];go_in;go_wp2_with fail;refine(Qy h).mono ?_;rintro e w1 ⟨rfl,h1,aU⟩;go_wp2_with fail;refine(yg h1 _ wF (by rfl) (by decide)).mono ?_;rintro e w2 ⟨rfl,h2,aS⟩;rw[hy];go_wp2_with fail;refine(Qy h2).mono ?_;rintro e w3 ⟨rfl,h3,bm⟩;go_wp2_with fail;go_ret;exact⟨rfl,h3,(aU.trans aS).trans bm⟩
 ·rw[if_neg (by simp[hp])];go_in;go_wp2_with fail;refine(Qy h).mono ?_;rintro e w1 ⟨rfl,h1,aU⟩;go_wp2_with fail;go_ret;exact⟨rfl,h1,aU⟩
theorem So(g:RG)(st:RS):0<=(fL g st).2/\(fL g st).2<=99:=by
 have r1:=Sm g st;have r2:=Sm g (jx g st).1;unfold fL;split
 ·simp;omega
 ·omega
theorem ag4(h:aV w g fo st):
 Calls prog 130 #[BT g.b 0] w fun e w'=>e=.returned (.tuple #[GW (eO g st).2.1,GW (eO g st).2.2])/\aV w' g fo (eO g st).1/\aa g.ay w w':=by
 have r1:=So g st;have r2:=So g {(fL g st).1 with next:=(fL g st).1.next+1};unfold eO
 cases hc:aK N6 (aC g (fL g st).1)
 ·go_in
  go_wp2_with fail
  refine(Sc h).mono ?_;rintro e w1 ⟨rfl,h1,aU⟩;go_wp2_with fail;refine(jf h1 _ N6 (by rfl) (by decide) hc).mono ?_;rintro e w2 ⟨rfl,h2,aS⟩;go_wp2_with fail;refine(tH h2 _ wE (by rfl) (by decide)).mono ?_;rintro e w3 ⟨rfl,h3,bm⟩;go_wp2_with fail;go_ret2;exact⟨rfl,h3,(aU.trans aS).trans bm⟩
 ·unfold sE
  cases hb:aK wE (aC g {(fL g st).1 with next:=(fL g st).1.next+1})
  ·go_in
   go_wp2_with fail
   refine(Sc h).mono ?_;rintro e w1 ⟨rfl,h1,aU⟩;go_wp2_with fail;refine(jz h1 _ N6 (by rfl) (by decide) hc).mono ?_;rintro e w2 ⟨rfl,h2,aS⟩;go_wp2_with fail;refine(yg h2 _ wE (by rfl) (by decide)).mono ?_;rintro e w3 ⟨rfl,h3,bm⟩;rw[hb];go_wp2_with fail;refine(Sc h3).mono ?_;rintro e w4 ⟨rfl,h4,dJ⟩;go_wp2_with fail;refine(tH h4 _ wE (by rfl) (by decide)).mono ?_;rintro e w5 ⟨rfl,h5,cS⟩;go_wp2_with fail;go_ret2;exact⟨rfl,h5,(((aU.trans aS).trans bm).trans dJ).trans cS⟩
  ·go_in
   go_wp2_with fail
   refine(Sc h).mono ?_;rintro e w1 ⟨rfl,h1,aU⟩;go_wp2_with fail;refine(jz h1 _ N6 (by rfl) (by decide) hc).mono ?_;rintro e w2 ⟨rfl,h2,aS⟩;go_wp2_with fail;refine(yg h2 _ wE (by rfl) (by decide)).mono ?_;rintro e w3 ⟨rfl,h3,bm⟩;rw[hb];go_wp2_with fail;refine(tH h3 _ wE (by rfl) (by decide)).mono ?_;rintro e w5 ⟨rfl,h5,cS⟩;go_wp2_with fail;go_ret2;exact⟨rfl,h5,((aU.trans aS).trans bm).trans cS⟩
theorem abr(h:aV w g fo st):
 Calls prog 168 #[BT g.b 0] w fun e w'=>e=.returned (.int .i32 (qN (aC g st)))/\aV w' g fo (eY g Ip st)/\aa g.ay w w':=by
 go_in
 go_wp2_with fail
 refine(nY h).mono ?_;rintro e w1 ⟨rfl,h1,aU⟩;go_wp2_with fail;refine(tH h1 _ Ip (by rfl) (by decide)).mono ?_;rintro e w2 ⟨rfl,h2,aS⟩;go_wp2_with fail;all_goals go_ret
 all_goals refine⟨?_,h2,aU.trans aS⟩
 all_goals(simp only[Gj,beq_eq_false_iff_ne,ne_eq]at*;simp[qN, *])
theorem XT(qM:Bool)(h:aV w g fo st):
 Calls prog 185 #[BT g.b 0,.bool qM] w fun e w'=>e=.returned (.int .i32 (l9 g qM st).2)/\aV w' g fo (l9 g qM st).1/\aa g.ay w w':=by
 unfold l9
 cases qM
 ·go_in
  go_wp2_with fail
  refine(adD h _ ade (by rfl) (by decide)).mono ?_;rintro e w2 ⟨rfl,h2,aS⟩;go_wp2_with fail;go_ret;exact⟨rfl,h2,aS⟩
 ·go_in
  go_wp2_with fail
  refine(abr h).mono ?_;rintro e w2 ⟨rfl,h2,aS⟩;go_wp2_with fail;go_ret;exact⟨rfl,h2,aS⟩
theorem adW(h:aV w g fo (fG g gA st)):
 Calls prog 185 #[BT g.b 0,.bool (aK gA (aC g st))] w fun e w'=>e=.returned (.int .i32 (dq g st).2)/\aV w' g fo (dq g st).1/\aa g.ay w w':=XT _ h
theorem Yg(g:RG)(st:RS):(ID g st).next=g.rs.length:=rfl
theorem XP(st:RS)(e p:Int):(st.eN e p).next=st.next:=rfl
theorem xZ(g:RG)(l:List UInt8)(st:RS)(h:st.next<=g.rs.length):st.next<=(eY g l st).next/\(eY g l st).next<=g.rs.length/\(st.next<g.rs.length->st.next<(eY g l st).next):=by
 unfold eY
 cases hc:aK l (aC g st)
 ·simp[Yg];exact h
 ·have:=j8 hc;simp;omega
theorem adE(g:RG)(l:List UInt8)(st:RS)(h:st.next<=g.rs.length):st.next<=(qp g l st).next/\(qp g l st).next<=g.rs.length/\(st.next<g.rs.length->st.next<(qp g l st).next):=by
 unfold qp;by_cases hc:aC g st= -1\/aK l (aC g st)=true
 ·rw[if_pos hc];simp[Yg];exact h
 ·rw[if_neg hc];have:=XE (fun e=>hc (Or.inl e));simp;omega
theorem Kx(g:RG)(l:List UInt8)(st:RS)(h:st.next<=g.rs.length):st.next<=(fG g l st).next/\(fG g l st).next<=g.rs.length:=by
 unfold fG
 cases hc:aK l (aC g st)
 ·simp;exact h
 ·have:=j8 hc;simp;omega
theorem am5(g:RG)(qM:Bool)(st:RS)(h:st.next<=g.rs.length):st.next<=(l9 g qM st).1.next/\(l9 g qM st).1.next<=g.rs.length/\(st.next<g.rs.length->st.next<(l9 g qM st).1.next):=by
 unfold l9
 cases qM
 ·exact adE g _ st h
 ·exact xZ g _ st h
theorem aes(g:RG)(st:RS)(h:st.next<=g.rs.length):st.next<=(dq g st).1.next/\(dq g st).1.next<=g.rs.length/\(st.next<g.rs.length->st.next<(dq g st).1.next):=by
 have h1:=Kx g gA st h;have h2:=am5 g (aK gA (aC g st)) (fG g gA st) h1.2;refine⟨by show st.next<=(l9 g _ (fG g gA st)).1.next;omega,h2.2.1,fun az=>?_⟩;show st.next<(l9 g _ (fG g gA st)).1.next
 cases hc:aK gA (aC g st)
 ·have e:fG g gA st=st:=by simp[fG,hc]
  rw[hc,e]at h2;rw[e];exact h2.2.2 az
 ·have e:(fG g gA st).next=st.next+1:=by simp[fG,hc]
  rw[hc]at h2;omega
theorem am7(g:RG)(p:Int)(x:RS×Int)(h:x.1.next<=g.rs.length):x.1.next<=(rA g p x).next/\(rA g p x).next<=g.rs.length:=by
 unfold rA
 cases hc:aK xW (aC g x.1)
 ·simp;exact h
 ·have hl:=j8 hc;have h1:=aes g {x.1 with next:=x.1.next+1} (by simp;omega);simp only at h1;simp only[if_true];split
  ·simp only[XP];omega
  ·omega
theorem X9(g:RG)(st:RS)(h:st.next<=g.rs.length):st.next<=(gi g st).next/\(gi g st).next<=g.rs.length/\(st.next<g.rs.length->st.next<(gi g st).next):=by
 unfold gi;by_cases hc:aK gA (aC g st)=true/\aK mJ (aC g {st with next:=st.next+1})=true
 ·rw[if_pos hc];have:=j8 hc.2;simp at*;omega
 ·rw[if_neg hc];have h1:=aes g st h;have h2:=am7 g (rB g st) (dq g st) h1.2.1;omega
theorem amU(g:RG)(m:Nat)(st:RS)(h:aC g st= -1\/aK qn (aC g st)=true):mM g m st=st:=by
 cases m with
 |zero=>rfl
 |succ m=>unfold mM;rw[if_pos h]
theorem aek(g:RG):∀(m:Nat) (st:RS),st.next<=g.rs.length->st.next<=(mM g m st).next/\(mM g m st).next<=g.rs.length
 |0,st,h=>⟨Ab _,h⟩
 |m+1,st,h=>by
  unfold mM;split
  ·exact⟨Ab _,h⟩
  ·have h1:=X9 g st h;have h2:=aek g m (gi g st) h1.2.1;omega
theorem amQ(g:RG)(st:RS)(h:st.next<=g.rs.length):st.next<=(sD g st).next/\(sD g st).next<=g.rs.length:=by
 unfold sD;have h1:=Kx g tF st h;have h2:=X9 g _ h1.2;have h3:=aek g (g.rs.length+1) _ h2.2.1;have h4:=xZ g qn _ h3.2;omega
theorem amV(g:RG)(first m:Nat)(st:RS)(h:¬(st.next<first+8/\aK oP (aC g st)=true)):lL g first m st=st:=by
 cases m with
 |zero=>rfl
 |succ m=>unfold lL;rw[if_neg h]
theorem aeo(g:RG)(first:Nat):∀(m:Nat) (st:RS),st.next<=g.rs.length->st.next<=(lL g first m st).next/\(lL g first m st).next<=g.rs.length
 |0,st,h=>⟨Ab _,h⟩
 |m+1,st,h=>by
  unfold lL;split
  ·rename_i hc
   have hl:=j8 hc.2;have h2:=(aeo g first m {st with next:=st.next+1} (by simp;omega));simp only at h2;omega
  ·exact⟨Ab _,h⟩
theorem am2(g:RG)(first:Nat)(st:RS):(ng g first st).next=st.next:=by unfold ng;split<;>rfl
theorem amZ(g:RG)(st:RS)(h:st.next<=g.rs.length):st.next<=(pL g st).next/\(pL g st).next<=g.rs.length:=by
 unfold pL;have h1:=xZ g oP st h;have h2:=aeo g st.next (g.rs.length+9) _ h1.2.1
 have h3:=am2 g st.next (lL g st.next (g.rs.length+9) (eY g oP st))
 have h4:=xZ g Kd (ng g st.next (lL g st.next (g.rs.length+9) (eY g oP st))) (by omega);omega
theorem alZ(g:RG)(l:List UInt8)(st:RS):(eY g l st).aT=st.aT/\(eY g l st).names=st.names:=by
 unfold eY;split<;>exact⟨rfl,rfl⟩
theorem adC(g:RG)(a b:Nat)(hb:b<=g.rs.length)(hl:g.rs.length<=300):(runesBytes ((g.rs.take b).drop a)).size<=maxLen:=by
 have h1:=runesBytes_size_le ((g.rs.take b).drop a);have h2:((g.rs.take b).drop a).length<=300:=by simp;omega
 unfold maxLen;omega
theorem adB(g:RG)(a b:Nat)(GY:g.rs.length<=g.cr)(lG:a<=b)(hb:b<=g.rs.length)(hc:∀i,i<g.rs.length->w.cell? ⟨g.br,i,none⟩=some (.int .i32 (g.rs.getD i 0))):
 (convert 96 9 (.slice (if g.cr=a then some ⟨g.br,0,none⟩else some ⟨g.br,a,none⟩) (b-a) (g.cr-a))).run prog w=.ok (.string (runesBytes ((g.rs.take b).drop a))) w:=by
 by_cases h:g.cr=a
 ·have e:(g.rs.take b).drop a=[]:=by simp;omega
  rw[if_pos h,e];have:=run_convert_runes (P:=prog) w 96 9 21 ⟨g.br,0,none⟩ (b-a) (g.cr-a) [] (by simp;omega) underlying96 underlying21 underlying9 (fun j hj=>by simp at hj);simpa using this
 ·rw[if_neg h]
  have:=run_convert_runes (P:=prog) w 96 9 21 ⟨g.br,a,none⟩ (b-a) (g.cr-a) ((g.rs.take b).drop a) (by simp;omega) underlying96 underlying21 underlying9 (fun j hj=>by
   have Nb:a+j<b:=by simp at hj;omega
   have yY:(Addr.add ⟨g.br,a,none⟩ j)=⟨g.br,a+j,none⟩:=by
    unfold Addr.add;split
    ·rename_i hz;simp
    ·rfl
   rw[yY,hc (a+j) (by omega)];congr 2;simp[List.getD,Dq,Av Nb])
  rw[this,Bz (by simp;omega)]
theorem alV(h:aV w g fo st)(h0:0<g.rs.length)(Rx:st.names.length<st.aT):
 Calls prog 165 #[BT g.b 0] w fun e w'=>e=.returned (.tuple #[])/\aV w' g fo (pL g st)/\aa g.ay w w':=by
 have l7:=h.next
 have hl:=h.len;have c2:w.cell? ⟨g.b,2,none⟩=some (GW st.next):=h.aq.cell 2;go_in;go_wp2_with fail;refine(tH h _ oP (by rfl) (by decide)).mono ?_;rintro e w1 ⟨rfl,h1,aU⟩;clear c2;go_wp2_with fail;have pE:=xZ g oP st l7;have CV:=alZ g oP st;generalize bD:eY g oP st=dI at h1 pE CV;have lS:Hid (eY g oP st=dI):=bD;clear bD;go_loopg [22] (g.rs.length-dI.next) (fun k _ wr=>∃aD m,aV wr g fo aD/\Hid (lL g st.next m aD=lL g st.next (g.rs.length+9) dI)/\k=g.rs.length-aD.next/\k<m/\st.next<=aD.next/\Hid (aD.aT=dI.aT/\aD.names=dI.names)/\aa g.ay w wr)
 case atStart=>exact⟨dI,g.rs.length+9,h1,rfl,rfl,by omega,by omega,⟨rfl,rfl⟩,aU⟩
 case round=>
  obtain⟨aD,m,hr,HP,rfl,hm,gW,HG,hk⟩:=hrel;have hle:=hr.next
  clear h1 aU;have c2:wr.cell? ⟨g.b,2,none⟩=some (GW aD.next):=hr.aq.cell 2;by_cases kC:aD.next<st.next+8/\aK oP (aC g aD)=true
  ·obtain⟨sh,CU⟩:=kC;have az:=j8 CU;go_wp2_with fail;refine(yg hr _ oP (by rfl) (by decide)).mono ?_;rintro e w3 ⟨rfl,h3,bm⟩;rw[CU];have c3:w3.cell? ⟨g.b,2,none⟩=some (GW aD.next):=h3.aq.cell 2;have f3:=h3.aq.frozen 2;go_wp2_with fail;go_roundg (g.rs.length-(aD.next+1))
   case measure=>omega
   case rel=>
    have h4:=h3.SJ (aD.next+1) (by omega) (by have:=h3.aT;omega);refine⟨{aD with next:=aD.next+1},m-1,by simpa using h4,?_,rfl,by omega,by simp;omega,HG,(hk.trans bm).trans (zJ g 2 _)⟩;rw[<-HP.o];obtain⟨m',rfl⟩:∃m',m=m'+1:=⟨m-1,by omega⟩
    show lL g st.next m' _=lL g st.next (m'+1) aD
    rw[show lL g st.next (m'+1) aD=if aD.next<st.next+8/\aK oP (aC g aD)=true then lL g st.next m' {aD with next:=aD.next+1}else aD from rfl,if_pos ⟨sh,CU⟩]
  ·have hP:=HP.o;rw[amV g st.next m aD kC]at hP;have vh:Hid (aD=lL g st.next (g.rs.length+9) dI):=hP;clear hP HP c2;have mA:=hr.isSome h0;by_cases h8:aD.next<st.next+8
   ·have hs:aK oP (aC g aD)=false:=by
     cases hs:aK oP (aC g aD)
     ·rfl
     ·exact absurd ⟨h8,hs⟩ kC
    clear kC;have c2:wr.cell? ⟨g.b,2,none⟩=some (GW aD.next):=hr.aq.cell 2;go_wp2_with fail;refine(yg hr _ oP (by rfl) (by decide)).mono ?_;rintro e w3 ⟨rfl,h3,bm⟩;rw[hs];clear c2;have gK:=hk.trans bm;have uu:=h3.apart;have GY:=h3.nM;have c0:w3.cell? ⟨g.b,0,none⟩=some (.slice (some ⟨g.br,0,none⟩) g.rs.length g.cr):=by rw[<-mA];exact h3.aq.cell 0
    have c1:w3.cell? ⟨g.b,1,none⟩=some (.slice (some ⟨g.bp,0,none⟩) (g.rs.length+1) g.cp):=h3.aq.cell 1;have c2:w3.cell? ⟨g.b,2,none⟩=some (GW aD.next):=h3.aq.cell 2;have c4:w3.cell? ⟨g.b,5,none⟩=some (GW aD.aT):=h3.aq.cell 5;have c5:w3.cell? ⟨g.b,6,none⟩=some (.map (some g.bn)):=h3.aq.cell 6;have GX:=(adB (w:=w3.drew) g st.next aD.next GY gW hle (fun i hi=>h3.gS i hi));have ajS:aD.next<=g.cr:=(by omega);have aW:=adC g st.next aD.next hle hl
    generalize Nd:runesBytes ((g.rs.take aD.next).drop st.next)=kb at GX aW
    have Ln:Hid (runesBytes ((g.rs.take aD.next).drop st.next)=kb):=Nd;clear Nd;obtain⟨D,hD,hN⟩:=h3.nm;have jr:keyOf prog 9 (.string kb)=some (.string kb.data.toList):=El underlying9 aW;have Vx:Maps.size D<maxLen:=by rw[hN.size];have:=h3.names;have:=h3.aT;unfold maxLen;omega
    cases qU:aD.names.any (fun p=>p.1==kb.data.toList)
    ·have hh:has D (.string kb.data.toList)=false:=by rw[hN.has];exact qU
     have dM:aD.aT<=300:=by have:=h3.aT;omega
     obtain⟨w4,tw,Nu,M_⟩:=(hD.drew.drew).update (t:=65) (e:=3) ss underlying65 Vx jr (plainElem_int (H:=Unit) (a:=(aD.aT:Int)) underlying3 (Dd (by omega)));go_wp2_with fail;go_region;all_goals go_wp2_with (at_lookup;refine By _ rfl _ _ 65 rfl 9 3 .i64 ss underlying65 underlying3 (yp _) g.bn _ D rfl hD.drew _ _ rfl jr ?_;intro c jC zv)
     all_goals go_region
     all_goals go_wp2_with fail
     all_goals
      have rU:=hN.put (hD.tidy ss) kb.data.toList aD.aT qU;have dJ:aa (fun i=>i=g.bn) w3 w4:=((aa.refl _ _).drew.drew).eP M_ (fun k hk=>Or.inl (by cases hk;rfl));have e4:Maps.size (D.put (.string kb.data.toList) (.lit (.int .i64 aD.aT)))=Maps.size D+1:=by rw[rU.size,hN.size];simp
      have h4:=h3.named _ (e4▸Nu) rU dJ (by have:=HG.o;simp only[Ax];rw[this.2,this.1,CV.2,CV.1];omega);have cS:aa g.ay w w4:=gK.trans (dJ.mono (fun i hi=>by simp[RG.ay,hi]))
      have EN:Hid (ng g st.next aD={aD with names:=(kb.data.toList,aD.aT)::aD.names}):=by
       show ng g st.next aD=_
       unfold ng Kr;rw[Ln.o,qU];rfl
      clear tw Nu M_ hD GX;refine(tH h4 _ Kd (by rfl) (by decide)).mono ?_;rintro e w5 ⟨rfl,h5,gQ⟩;go_wp2_with fail;go_end0;refine⟨rfl,?_,cS.trans gQ⟩;unfold pL;rw[lS.o,<-vh.o,EN.o];exact h5
    ·have hh:has D (.string kb.data.toList)=true:=by rw[hN.has];exact qU
     have cpl:=(h3.places st.next (by omega));have qh:st.next<g.rs.length+1:=(by omega);have NB:=h3.ni st.next
     go_wp2_with fail
     go_region
     all_goals go_wp2_with (at_lookup;refine By _ rfl _ _ 65 rfl 9 3 .i64 ss underlying65 underlying3 (yp _) g.bn _ D rfl hD.drew _ _ rfl jr ?_;intro c jC zv)
     all_goals
      have h4:=h3.nil (aa.refl ai w3).drew
      have EN:Hid (ng g st.next aD=aD.eN 6 (g.ps.getD st.next 0)):=by
       show ng g st.next aD=_
       unfold ng Kr;rw[Ln.o,qU];rfl
      clear hD GX;refine(Iu h4 6 _ (by omega) NB).mono ?_;rintro e w5 ⟨rfl,h5,gQ⟩;go_wp2_with fail;refine(tH h5 _ Kd (by rfl) (by decide)).mono ?_;rintro e w6 ⟨rfl,h6,iP⟩;go_wp2_with fail;go_end0;refine⟨rfl,?_,(gK.drew.trans gQ).trans iP⟩;unfold pL;rw[lS.o,<-vh.o,EN.o];exact h6
   ·have h3:=hr;obtain⟨w3,W_⟩:∃w3,w3=wr:=⟨_,rfl⟩
    have gK:=hk;rw[<-W_]at h3 gK⊢;have aks:=W_;clear aks kC;subst W_;have uu:=h3.apart;have GY:=h3.nM;have c0:w3.cell? ⟨g.b,0,none⟩=some (.slice (some ⟨g.br,0,none⟩) g.rs.length g.cr):=by rw[<-mA];exact h3.aq.cell 0
    have c1:w3.cell? ⟨g.b,1,none⟩=some (.slice (some ⟨g.bp,0,none⟩) (g.rs.length+1) g.cp):=h3.aq.cell 1;have c2:w3.cell? ⟨g.b,2,none⟩=some (GW aD.next):=h3.aq.cell 2;have c4:w3.cell? ⟨g.b,5,none⟩=some (GW aD.aT):=h3.aq.cell 5;have c5:w3.cell? ⟨g.b,6,none⟩=some (.map (some g.bn)):=h3.aq.cell 6;have GX:=(adB (w:=w3.drew) g st.next aD.next GY gW hle (fun i hi=>h3.gS i hi));have ajS:aD.next<=g.cr:=(by omega);have aW:=adC g st.next aD.next hle hl
    generalize Nd:runesBytes ((g.rs.take aD.next).drop st.next)=kb at GX aW
    have Ln:Hid (runesBytes ((g.rs.take aD.next).drop st.next)=kb):=Nd;clear Nd;obtain⟨D,hD,hN⟩:=h3.nm;have jr:keyOf prog 9 (.string kb)=some (.string kb.data.toList):=El underlying9 aW;have Vx:Maps.size D<maxLen:=by rw[hN.size];have:=h3.names;have:=h3.aT;unfold maxLen;omega
    cases qU:aD.names.any (fun p=>p.1==kb.data.toList)
    ·have hh:has D (.string kb.data.toList)=false:=by rw[hN.has];exact qU
     have dM:aD.aT<=300:=by have:=h3.aT;omega
     obtain⟨w4,tw,Nu,M_⟩:=(hD.drew.drew).update (t:=65) (e:=3) ss underlying65 Vx jr (plainElem_int (H:=Unit) (a:=(aD.aT:Int)) underlying3 (Dd (by omega)));go_wp2_with fail;go_region;all_goals go_wp2_with (at_lookup;refine By _ rfl _ _ 65 rfl 9 3 .i64 ss underlying65 underlying3 (yp _) g.bn _ D rfl hD.drew _ _ rfl jr ?_;intro c jC zv)
     all_goals go_region
     all_goals go_wp2_with fail
     all_goals
      have rU:=hN.put (hD.tidy ss) kb.data.toList aD.aT qU;have dJ:aa (fun i=>i=g.bn) w3 w4:=((aa.refl _ _).drew.drew).eP M_ (fun k hk=>Or.inl (by cases hk;rfl));have e4:Maps.size (D.put (.string kb.data.toList) (.lit (.int .i64 aD.aT)))=Maps.size D+1:=by rw[rU.size,hN.size];simp
      have h4:=h3.named _ (e4▸Nu) rU dJ (by have:=HG.o;simp only[Ax];rw[this.2,this.1,CV.2,CV.1];omega);have cS:aa g.ay w w4:=gK.trans (dJ.mono (fun i hi=>by simp[RG.ay,hi]))
      have EN:Hid (ng g st.next aD={aD with names:=(kb.data.toList,aD.aT)::aD.names}):=by
       show ng g st.next aD=_
       unfold ng Kr;rw[Ln.o,qU];rfl
      clear tw Nu M_ hD GX;refine(tH h4 _ Kd (by rfl) (by decide)).mono ?_;rintro e w5 ⟨rfl,h5,gQ⟩;go_wp2_with fail;go_end0;refine⟨rfl,?_,cS.trans gQ⟩;unfold pL;rw[lS.o,<-vh.o,EN.o];exact h5
    ·have hh:has D (.string kb.data.toList)=true:=by rw[hN.has];exact qU
     have cpl:=(h3.places st.next (by omega));have qh:st.next<g.rs.length+1:=(by omega);have NB:=h3.ni st.next
     go_wp2_with fail
     go_region
     all_goals go_wp2_with (at_lookup;refine By _ rfl _ _ 65 rfl 9 3 .i64 ss underlying65 underlying3 (yp _) g.bn _ D rfl hD.drew _ _ rfl jr ?_;intro c jC zv)
     all_goals
      have h4:=h3.nil (aa.refl ai w3).drew
      have EN:Hid (ng g st.next aD=aD.eN 6 (g.ps.getD st.next 0)):=by
       show ng g st.next aD=_
       unfold ng Kr;rw[Ln.o,qU];rfl
      clear hD GX;refine(Iu h4 6 _ (by omega) NB).mono ?_;rintro e w5 ⟨rfl,h5,gQ⟩;go_wp2_with fail;refine(tH h5 _ Kd (by rfl) (by decide)).mono ?_;rintro e w6 ⟨rfl,h6,iP⟩;go_wp2_with fail;go_end0;refine⟨rfl,?_,(gK.drew.trans gQ).trans iP⟩;unfold pL;rw[lS.o,<-vh.o,EN.o];exact h6
