/- The reader of th -/
import Derived.Test.YtpdnofhackjfdaaGreatDoorP01
set_option linter.all false
set_option maxRecDepth 100000
set_option maxHeartbeats 1000000
namespace Go.Proofs.YtpdnofhackjfdaaGreatDoor
open Go.Proofs.Tryz
open Go.RowKit Go.Maps
variable {fo:Bool} {g:RG} {st:RS} {w:World}
theorem xB(h:aS w g fo st)(s:ByteArray)(l:List UInt8)(hl:s.data.toList=l)(hs:∀b∈l,b.toNat<128):
 Calls prog 107 #[.pointer (some ⟨g.b,0,none⟩),.string s] w fun e w'=>e=.returned (.bool (aG l (ay g st)))/\aS w' g fo st/\aa g.au w w':=by
 subst hl;exact(NC h s hs).mono fun e w' ⟨he,hk⟩=>⟨he,h.nil hk,hk.mono (fun _ hx=>hx.elim)⟩
theorem nS(h:aS w g fo st):
 Calls prog 57 #[.pointer (some ⟨g.b,0,none⟩)] w fun e w'=>e=.returned (.int .i32 (ay g st))/\aS w' g fo st/\aa g.au w w':=
 (NB h).mono fun e w' ⟨he,hk⟩=>⟨he,h.nil hk,hk.mono (fun _ hx=>hx.elim)⟩
theorem Rn(h:aS w g fo st):
 Calls prog 84 #[.pointer (some ⟨g.b,0,none⟩)] w fun e w'=>e=.returned (.int .i64 (qQ g st))/\aS w' g fo st/\aa g.au w w':=
 (ad0 h).mono fun e w' ⟨he,hk⟩=>⟨he,h.nil hk,hk.mono (fun _ hx=>hx.elim)⟩
theorem js(h:aS w g fo st)(s:ByteArray)(l:List UInt8)(hl:s.data.toList=l)(hs:∀b∈l,b.toNat<128)(hy:aG l (ay g st)=true):
 Calls prog 83 #[.pointer (some ⟨g.b,0,none⟩),.string s] w fun e w'=>e=.returned (.bool true)/\aS w' g fo {st with next:=st.next+1}/\aa g.au w w':=by
 subst hl;exact XE h s hs hy
theorem ja(h:aS w g fo st)(s:ByteArray)(l:List UInt8)(hl:s.data.toList=l)(hs:∀b∈l,b.toNat<128)(hy:aG l (ay g st)=false):
 Calls prog 83 #[.pointer (some ⟨g.b,0,none⟩),.string s] w fun e w'=>e=.returned (.bool false)/\aS w' g fo st/\aa g.au w w':=by
 subst hl;exact XD h s hs hy
theorem RO(h:aS w g fo st)(s:ByteArray)(l:List UInt8)(hl:s.data.toList=l)(hs:∀b∈l,b.toNat<128):
 Calls prog 83 #[.pointer (some ⟨g.b,0,none⟩),.string s] w fun e w'=>e=.returned (.bool (aG l (ay g st)))/\aS w' g fo (fq g l st)/\aa g.au w w':=by
 subst hl;exact aoL h s hs
theorem tn(h:aS w g fo st)(s:ByteArray)(l:List UInt8)(hl:s.data.toList=l)(hs:∀b∈l,b.toNat<128):
 Calls prog 163 #[.pointer (some ⟨g.b,0,none⟩),.string s] w fun e w'=>e=.returned (.tuple #[])/\aS w' g fo (eM g l st)/\aa g.au w w':=by
 subst hl;exact alp h s hs
theorem acT(h:aS w g fo st)(s:ByteArray)(l:List UInt8)(hl:s.data.toList=l)(hs:∀b∈l,b.toNat<128):
 Calls prog 136 #[.pointer (some ⟨g.b,0,none⟩),.string s] w fun e w'=>e=.returned (.int .i32 (ay g st))/\aS w' g fo (pq g l st)/\aa g.au w w':=by
 subst hl;exact aln h s hs
theorem Rg(g:RG)(st:RS):0<=(jr g st).2/\(jr g st).2<=9:=by
 unfold jr
 cases h:aG vN (ay g st)
 ·simp
 ·have:=VU h;simp;omega
theorem Pc(h:aS w g fo st):
 Calls prog 184 #[.pointer (some ⟨g.b,0,none⟩)] w fun e w'=>e=.returned (.int .i64 (jr g st).2)/\aS w' g fo (jr g st).1/\aa g.au w w':=by
 unfold jr
 cases hy:aG vN (ay g st)
 ·go_in
  go_wp2_with fail
  refine(nS h).mono ?_;rintro e w1 ⟨rfl,h1,aU⟩;go_wp2_with fail;refine(ja h1 _ vN (by rfl) (by decide) hy).mono ?_;rintro e w2 ⟨rfl,h2,aN⟩;go_wp2_with fail;refine(Nu h2).mono ?_;rintro e w3 ⟨rfl,h3,bA⟩;go_wp2_with fail;go_ret;exact⟨rfl,h3,(aU.trans aN).trans bA⟩
 ·have hd:=VU hy;go_in;go_wp2_with fail;refine(nS h).mono ?_;rintro e w1 ⟨rfl,h1,aU⟩;go_wp2_with fail;refine(js h1 _ vN (by rfl) (by decide) hy).mono ?_;rintro e w2 ⟨rfl,h2,aN⟩;obtain⟨d,FY,sP,AN⟩:∃d:Int,ay g st=d+48/\0<=d/\d<=9:=⟨ay g st-48,by omega,by omega,by omega⟩
  have HD:Hid (ay g st=d+48):=FY;rw[FY];clear hd FY hy;go_wp2_with fail;go_ret;exact⟨by rw[HD.o];simp,h2,aU.trans aN⟩
theorem QZ(h:aS w g fo st):
 Calls prog 162 #[.pointer (some ⟨g.b,0,none⟩)] w fun e w'=>e=.returned (.int .i64 (fD g st).2)/\aS w' g fo (fD g st).1/\aa g.au w w':=by
 have r1:=Rg g st;have r2:=Rg g (jr g st).1;unfold fD;by_cases hp:0<(jr g st).2
 ·cases hy:aG vN (ay g (jr g st).1)
  ·rw[if_neg (by simp)];go_in;go_wp2_with fail;refine(Pc h).mono ?_;rintro e w1 ⟨rfl,h1,aU⟩;go_wp2_with fail;refine(xB h1 _ vN (by rfl) (by decide)).mono ?_;rintro e w2 ⟨rfl,h2,aN⟩;rw[hy];go_wp2_with fail;go_ret;exact⟨rfl,h2,aU.trans aN⟩
  ·rw[if_pos ⟨hp,rfl⟩];go_in;go_wp2_with fail;refine(Pc h).mono ?_;rintro e w1 ⟨rfl,h1,aU⟩;go_wp2_with fail;refine(xB h1 _ vN (by rfl) (by decide)).mono ?_;rintro e w2 ⟨rfl,h2,aN⟩;rw[hy];go_wp2_with fail;refine(Pc h2).mono ?_;rintro e w3 ⟨rfl,h3,bA⟩;go_wp2_with fail;go_ret;exact⟨rfl,h3,(aU.trans aN).trans bA⟩
 ·rw[if_neg (by simp[hp])];go_in;go_wp2_with fail;refine(Pc h).mono ?_;rintro e w1 ⟨rfl,h1,aU⟩;go_wp2_with fail;go_ret;exact⟨rfl,h1,aU⟩
theorem Ri(g:RG)(st:RS):0<=(fD g st).2/\(fD g st).2<=99:=by
 have r1:=Rg g st;have r2:=Rg g (jr g st).1;unfold fD;split
 ·simp;omega
 ·omega
theorem age(h:aS w g fo st):
 Calls prog 130 #[.pointer (some ⟨g.b,0,none⟩)] w fun e w'=>e=.returned (.tuple #[.int .i64 (eF g st).2.1,.int .i64 (eF g st).2.2])/\aS w' g fo (eF g st).1/\aa g.au w w':=by
 have r1:=Ri g st;have r2:=Ri g {(fD g st).1 with next:=(fD g st).1.next+1};unfold eF
 cases hc:aG M4 (ay g (fD g st).1)
 ·go_in
  go_wp2_with fail
  refine(QZ h).mono ?_;rintro e w1 ⟨rfl,h1,aU⟩;go_wp2_with fail;refine(ja h1 _ M4 (by rfl) (by decide) hc).mono ?_;rintro e w2 ⟨rfl,h2,aN⟩;go_wp2_with fail;refine(tn h2 _ vM (by rfl) (by decide)).mono ?_;rintro e w3 ⟨rfl,h3,bA⟩;go_wp2_with fail;go_ret2;exact⟨rfl,h3,(aU.trans aN).trans bA⟩
 ·unfold rZ
  cases hb:aG vM (ay g {(fD g st).1 with next:=(fD g st).1.next+1})
  ·go_in
   go_wp2_with fail
   refine(QZ h).mono ?_;rintro e w1 ⟨rfl,h1,aU⟩;go_wp2_with fail;refine(js h1 _ M4 (by rfl) (by decide) hc).mono ?_;rintro e w2 ⟨rfl,h2,aN⟩;go_wp2_with fail;refine(xB h2 _ vM (by rfl) (by decide)).mono ?_;rintro e w3 ⟨rfl,h3,bA⟩;rw[hb];go_wp2_with fail;refine(QZ h3).mono ?_;rintro e w4 ⟨rfl,h4,dC⟩;go_wp2_with fail;refine(tn h4 _ vM (by rfl) (by decide)).mono ?_;rintro e w5 ⟨rfl,h5,cW⟩;go_wp2_with fail;go_ret2;exact⟨rfl,h5,(((aU.trans aN).trans bA).trans dC).trans cW⟩
  ·go_in
   go_wp2_with fail
   refine(QZ h).mono ?_;rintro e w1 ⟨rfl,h1,aU⟩;go_wp2_with fail;refine(js h1 _ M4 (by rfl) (by decide) hc).mono ?_;rintro e w2 ⟨rfl,h2,aN⟩;go_wp2_with fail;refine(xB h2 _ vM (by rfl) (by decide)).mono ?_;rintro e w3 ⟨rfl,h3,bA⟩;rw[hb];go_wp2_with fail;refine(tn h3 _ vM (by rfl) (by decide)).mono ?_;rintro e w5 ⟨rfl,h5,cW⟩;go_wp2_with fail;go_ret2;exact⟨rfl,h5,((aU.trans aN).trans bA).trans cW⟩
theorem aaI(h:aS w g fo st):
 Calls prog 168 #[.pointer (some ⟨g.b,0,none⟩)] w fun e w'=>e=.returned (.int .i32 (qv (ay g st)))/\aS w' g fo (eM g G9 st)/\aa g.au w w':=by
 go_in
 go_wp2_with fail
 refine(nS h).mono ?_;rintro e w1 ⟨rfl,h1,aU⟩;go_wp2_with fail;refine(tn h1 _ G9 (by rfl) (by decide)).mono ?_;rintro e w2 ⟨rfl,h2,aN⟩;go_wp2_with fail;all_goals go_ret
 all_goals refine⟨?_,h2,aU.trans aN⟩
 all_goals(simp only[Gi,beq_eq_false_iff_ne,ne_eq]at*;simp[qv, *])
theorem Wz(qu:Bool)(h:aS w g fo st):
 Calls prog 185 #[.pointer (some ⟨g.b,0,none⟩),.bool qu] w fun e w'=>e=.returned (.int .i32 (lT g qu st).2)/\aS w' g fo (lT g qu st).1/\aa g.au w w':=by
 unfold lT
 cases qu
 ·go_in
  go_wp2_with fail
  refine(acT h _ acu (by rfl) (by decide)).mono ?_;rintro e w2 ⟨rfl,h2,aN⟩;go_wp2_with fail;go_ret;exact⟨rfl,h2,aN⟩
 ·go_in
  go_wp2_with fail
  refine(aaI h).mono ?_;rintro e w2 ⟨rfl,h2,aN⟩;go_wp2_with fail;go_ret;exact⟨rfl,h2,aN⟩
theorem ada(h:aS w g fo (fq g f_ st)):
 Calls prog 185 #[.pointer (some ⟨g.b,0,none⟩),.bool (aG f_ (ay g st))] w fun e w'=>e=.returned (.int .i32 (df g st).2)/\aS w' g fo (df g st).1/\aa g.au w w':=Wz _ h
theorem WX(g:RG)(st:RS):(Ho g st).next=g.rs.length:=rfl
theorem Wv(st:RS)(e p:Int):(st.eo e p).next=st.next:=rfl
theorem xu(g:RG)(l:List UInt8)(st:RS)(h:st.next<=g.rs.length):st.next<=(eM g l st).next/\(eM g l st).next<=g.rs.length/\(st.next<g.rs.length->st.next<(eM g l st).next):=by
 unfold eM
 cases hc:aG l (ay g st)
 ·simp[WX];exact h
 ·have:=j0 hc;simp;omega
theorem acU(g:RG)(l:List UInt8)(st:RS)(h:st.next<=g.rs.length):st.next<=(pq g l st).next/\(pq g l st).next<=g.rs.length/\(st.next<g.rs.length->st.next<(pq g l st).next):=by
 unfold pq;by_cases hc:ay g st= -1\/aG l (ay g st)=true
 ·rw[if_pos hc];simp[WX];exact h
 ·rw[if_neg hc];have:=Wj (fun e=>hc (Or.inl e));simp;omega
theorem JY(g:RG)(l:List UInt8)(st:RS)(h:st.next<=g.rs.length):st.next<=(fq g l st).next/\(fq g l st).next<=g.rs.length:=by
 unfold fq
 cases hc:aG l (ay g st)
 ·simp;exact h
 ·have:=j0 hc;simp;omega
theorem amz(g:RG)(qu:Bool)(st:RS)(h:st.next<=g.rs.length):st.next<=(lT g qu st).1.next/\(lT g qu st).1.next<=g.rs.length/\(st.next<g.rs.length->st.next<(lT g qu st).1.next):=by
 unfold lT
 cases qu
 ·exact acU g _ st h
 ·exact xu g _ st h
theorem adL(g:RG)(st:RS)(h:st.next<=g.rs.length):st.next<=(df g st).1.next/\(df g st).1.next<=g.rs.length/\(st.next<g.rs.length->st.next<(df g st).1.next):=by
 have h1:=JY g f_ st h;have h2:=amz g (aG f_ (ay g st)) (fq g f_ st) h1.2;refine⟨by show st.next<=(lT g _ (fq g f_ st)).1.next;omega,h2.2.1,fun aw=>?_⟩;show st.next<(lT g _ (fq g f_ st)).1.next
 cases hc:aG f_ (ay g st)
 ·have e:fq g f_ st=st:=by simp[fq,hc]
  rw[hc,e]at h2;rw[e];exact h2.2.2 aw
 ·have e:(fq g f_ st).next=st.next+1:=by simp[fq,hc]
  rw[hc]at h2;omega
theorem amC(g:RG)(p:Int)(x:RS×Int)(h:x.1.next<=g.rs.length):x.1.next<=(qO g p x).next/\(qO g p x).next<=g.rs.length:=by
 unfold qO
 cases hc:aG xq (ay g x.1)
 ·simp;exact h
 ·have hl:=j0 hc;have h1:=adL g {x.1 with next:=x.1.next+1} (by simp;omega);simp only at h1;simp only[if_true];split
  ·simp only[Wv];omega
  ·omega
theorem WN(g:RG)(st:RS)(h:st.next<=g.rs.length):st.next<=(fU g st).next/\(fU g st).next<=g.rs.length/\(st.next<g.rs.length->st.next<(fU g st).next):=by
 unfold fU;by_cases hc:aG f_ (ay g st)=true/\aG my (ay g {st with next:=st.next+1})=true
 ·rw[if_pos hc];have:=j0 hc.2;simp at*;omega
 ·rw[if_neg hc];have h1:=adL g st h;have h2:=amC g (qQ g st) (df g st) h1.2.1;omega
theorem amo(g:RG)(m:Nat)(st:RS)(h:ay g st= -1\/aG pU (ay g st)=true):mD g m st=st:=by
 cases m with
 |zero=>rfl
 |succ m=>unfold mD;rw[if_pos h]
theorem adE(g:RG):∀(m:Nat) (st:RS),st.next<=g.rs.length->st.next<=(mD g m st).next/\(mD g m st).next<=g.rs.length
 |0,st,h=>⟨Ab _,h⟩
 |m+1,st,h=>by
  unfold mD;split
  ·exact⟨Ab _,h⟩
  ·have h1:=WN g st h;have h2:=adE g m (fU g st) h1.2.1;omega
theorem amk(g:RG)(st:RS)(h:st.next<=g.rs.length):st.next<=(rY g st).next/\(rY g st).next<=g.rs.length:=by
 unfold rY;have h1:=JY g tg st h;have h2:=WN g _ h1.2;have h3:=adE g (g.rs.length+1) _ h2.2.1;have h4:=xu g pU _ h3.2;omega
theorem amp(g:RG)(first m:Nat)(st:RS)(h:¬(st.next<first+8/\aG oH (ay g st)=true)):lA g first m st=st:=by
 cases m with
 |zero=>rfl
 |succ m=>unfold lA;rw[if_neg h]
theorem adI(g:RG)(first:Nat):∀(m:Nat) (st:RS),st.next<=g.rs.length->st.next<=(lA g first m st).next/\(lA g first m st).next<=g.rs.length
 |0,st,h=>⟨Ab _,h⟩
 |m+1,st,h=>by
  unfold lA;split
  ·rename_i hc
   have hl:=j0 hc.2;have h2:=(adI g first m {st with next:=st.next+1} (by simp;omega));simp only at h2;omega
  ·exact⟨Ab _,h⟩
theorem amw(g:RG)(first:Nat)(st:RS):(mZ g first st).next=st.next:=by unfold mZ;split<;>rfl
theorem amt(g:RG)(st:RS)(h:st.next<=g.rs.length):st.next<=(pz g st).next/\(pz g st).next<=g.rs.length:=by
 unfold pz;have h1:=xu g oH st h;have h2:=adI g st.next (g.rs.length+9) _ h1.2.1
 have h3:=amw g st.next (lA g st.next (g.rs.length+9) (eM g oH st))
 have h4:=xu g Jz (mZ g st.next (lA g st.next (g.rs.length+9) (eM g oH st))) (by omega);omega
theorem alq(g:RG)(l:List UInt8)(st:RS):(eM g l st).aR=st.aR/\(eM g l st).names=st.names:=by
 unfold eM;split<;>exact⟨rfl,rfl⟩
theorem acS(g:RG)(a b:Nat)(hb:b<=g.rs.length)(hl:g.rs.length<=300):(runesBytes ((g.rs.take b).drop a)).size<=maxLen:=by
 have h1:=runesBytes_size_le ((g.rs.take b).drop a);have h2:((g.rs.take b).drop a).length<=300:=by simp;omega
 unfold maxLen;omega
theorem acR(g:RG)(a b:Nat)(FW:g.rs.length<=g.cr)(lr:a<=b)(hb:b<=g.rs.length)(hc:∀i,i<g.rs.length->w.cell? ⟨g.br,i,none⟩=some (.int .i32 (g.rs.getD i 0))):
 (convert 96 9 (.slice (if g.cr=a then some ⟨g.br,0,none⟩else some ⟨g.br,a,none⟩) (b-a) (g.cr-a))).run prog w=.ok (.string (runesBytes ((g.rs.take b).drop a))) w:=by
 by_cases h:g.cr=a
 ·have e:(g.rs.take b).drop a=[]:=by simp;omega
  rw[if_pos h,e];have:=run_convert_runes (P:=prog) w 96 9 21 ⟨g.br,0,none⟩ (b-a) (g.cr-a) [] (by simp;omega) underlying96 underlying21 underlying9 (fun j hj=>by simp at hj);simpa using this
 ·rw[if_neg h]
  have:=run_convert_runes (P:=prog) w 96 9 21 ⟨g.br,a,none⟩ (b-a) (g.cr-a) ((g.rs.take b).drop a) (by simp;omega) underlying96 underlying21 underlying9 (fun j hj=>by
   have Mi:a+j<b:=by simp at hj;omega
   have yn:(Addr.add ⟨g.br,a,none⟩ j)=⟨g.br,a+j,none⟩:=by
    unfold Addr.add;split
    ·rename_i hz;simp
    ·rfl
   rw[yn,hc (a+j) (by omega)];congr 2;simp[List.getD,Ds,Aw Mi])
  rw[this,By (by simp;omega)]
theorem alm(h:aS w g fo st)(h0:0<g.rs.length)(Qr:st.names.length<st.aR):
 Calls prog 165 #[.pointer (some ⟨g.b,0,none⟩)] w fun e w'=>e=.returned (.tuple #[])/\aS w' g fo (pz g st)/\aa g.au w w':=by
 have lQ:=h.next
 have hl:=h.len;have c2:w.cell? ⟨g.b,2,none⟩=some (.int .i64 st.next):=h.aj.cell 2;go_in;go_wp2_with fail;refine(tn h _ oH (by rfl) (by decide)).mono ?_;rintro e w1 ⟨rfl,h1,aU⟩;clear c2;go_wp2_with fail;have pj:=xu g oH st lQ;have BE:=alq g oH st;generalize bC:eM g oH st=di at h1 pj BE;have lF:Hid (eM g oH st=di):=bC;clear bC;go_loopg [22] (g.rs.length-di.next) (fun k _ wr=>∃aC m,aS wr g fo aC/\Hid (lA g st.next m aC=lA g st.next (g.rs.length+9) di)/\k=g.rs.length-aC.next/\k<m/\st.next<=aC.next/\Hid (aC.aR=di.aR/\aC.names=di.names)/\aa g.au w wr)
 case atStart=>exact⟨di,g.rs.length+9,h1,rfl,rfl,by omega,by omega,⟨rfl,rfl⟩,aU⟩
 case round=>
  obtain⟨aC,m,hr,HP,rfl,hm,ia,HG,hk⟩:=hrel;have hle:=hr.next
  clear h1 aU;have c2:wr.cell? ⟨g.b,2,none⟩=some (.int .i64 aC.next):=hr.aj.cell 2;by_cases mq:aC.next<st.next+8/\aG oH (ay g aC)=true
  ·obtain⟨rJ,BD⟩:=mq;have aw:=j0 BD;go_wp2_with fail;refine(xB hr _ oH (by rfl) (by decide)).mono ?_;rintro e w3 ⟨rfl,h3,bA⟩;rw[BD];have c3:w3.cell? ⟨g.b,2,none⟩=some (.int .i64 aC.next):=h3.aj.cell 2;have f3:=h3.aj.frozen 2;go_wp2_with fail;go_roundg (g.rs.length-(aC.next+1))
   case measure=>omega
   case rel=>
    have h4:=h3.Rz (aC.next+1) (by omega) (by have:=h3.aR;omega);refine⟨{aC with next:=aC.next+1},m-1,by simpa using h4,?_,rfl,by omega,by simp;omega,HG,(hk.trans bA).trans (yT g 2 _)⟩;rw[<-HP.o];obtain⟨m',rfl⟩:∃m',m=m'+1:=⟨m-1,by omega⟩
    show lA g st.next m' _=lA g st.next (m'+1) aC
    rw[show lA g st.next (m'+1) aC=if aC.next<st.next+8/\aG oH (ay g aC)=true then lA g st.next m' {aC with next:=aC.next+1}else aC from rfl,if_pos ⟨rJ,BD⟩]
  ·have hP:=HP.o;rw[amp g st.next m aC mq]at hP;have Ii:Hid (aC=lA g st.next (g.rs.length+9) di):=hP;clear hP HP c2;have mj:=hr.isSome h0;by_cases h8:aC.next<st.next+8
   ·have hs:aG oH (ay g aC)=false:=by
     cases hs:aG oH (ay g aC)
     ·rfl
     ·exact absurd ⟨h8,hs⟩ mq
    clear mq;have c2:wr.cell? ⟨g.b,2,none⟩=some (.int .i64 aC.next):=hr.aj.cell 2;go_wp2_with fail;refine(xB hr _ oH (by rfl) (by decide)).mono ?_;rintro e w3 ⟨rfl,h3,bA⟩;rw[hs];clear c2;have gy:=hk.trans bA;have tW:=h3.apart;have FW:=h3.nD;have c0:w3.cell? ⟨g.b,0,none⟩=some (.slice (some ⟨g.br,0,none⟩) g.rs.length g.cr):=by rw[<-mj];exact h3.aj.cell 0
    have c1:w3.cell? ⟨g.b,1,none⟩=some (.slice (some ⟨g.bp,0,none⟩) (g.rs.length+1) g.cp):=h3.aj.cell 1;have c2:w3.cell? ⟨g.b,2,none⟩=some (.int .i64 aC.next):=h3.aj.cell 2;have c4:w3.cell? ⟨g.b,5,none⟩=some (.int .i64 aC.aR):=h3.aj.cell 5;have c5:w3.cell? ⟨g.b,6,none⟩=some (.map (some g.bn)):=h3.aj.cell 6;have FU:=(acR (w:=w3.drew) g st.next aC.next FW ia hle (fun i hi=>h3.gF i hi));have ajf:aC.next<=g.cr:=(by omega);have aP:=acS g st.next aC.next hle hl
    generalize Mk:runesBytes ((g.rs.take aC.next).drop st.next)=kb at FU aP
    have Kt:Hid (runesBytes ((g.rs.take aC.next).drop st.next)=kb):=Mk;clear Mk;obtain⟨D,hD,hN⟩:=h3.nm;have jk:keyOf prog 9 (.string kb)=some (.string kb.data.toList):=El underlying9 aP;have Un:Maps.size D<maxLen:=by rw[hN.size];have:=h3.names;have:=h3.aR;unfold maxLen;omega
    cases qB:aC.names.any (fun p=>p.1==kb.data.toList)
    ·have hh:has D (.string kb.data.toList)=false:=by rw[hN.has];exact qB
     have dN:aC.aR<=300:=by have:=h3.aR;omega
     obtain⟨w4,sY,My,Mg⟩:=(hD.drew.drew).update (t:=65) (e:=3) rQ underlying65 Un jk (plainElem_int (H:=Unit) (a:=(aC.aR:Int)) underlying3 (Dd (by omega)));go_wp2_with fail;go_region;all_goals go_wp2_with (at_lookup;refine Bu _ rfl _ _ 65 rfl 9 3 .i64 rQ underlying65 underlying3 (xL _) g.bn _ D rfl hD.drew _ _ rfl jk ?_;intro c iV yE)
     all_goals go_region
     all_goals go_wp2_with fail
     all_goals
      have rA:=hN.put (hD.tidy rQ) kb.data.toList aC.aR qB;have dC:aa (fun i=>i=g.bn) w3 w4:=((aa.refl _ _).drew.drew).eQ Mg (fun k hk=>Or.inl (by cases hk;rfl));have e4:Maps.size (D.put (.string kb.data.toList) (.lit (.int .i64 aC.aR)))=Maps.size D+1:=by rw[rA.size,hN.size];simp
      have h4:=h3.named _ (e4▸My) rA dC (by have:=HG.o;simp only[Av];rw[this.2,this.1,BE.2,BE.1];omega);have cW:aa g.au w w4:=gy.trans (dC.mono (fun i hi=>by simp[RG.au,hi]))
      have EN:Hid (mZ g st.next aC={aC with names:=(kb.data.toList,aC.aR)::aC.names}):=by
       show mZ g st.next aC=_
       unfold mZ JQ;rw[Kt.o,qB];rfl
      clear sY My Mg hD FU;refine(tn h4 _ Jz (by rfl) (by decide)).mono ?_;rintro e w5 ⟨rfl,h5,gE⟩;go_wp2_with fail;go_end0;refine⟨rfl,?_,cW.trans gE⟩;unfold pz;rw[lF.o,<-Ii.o,EN.o];exact h5
    ·have hh:has D (.string kb.data.toList)=true:=by rw[hN.has];exact qB
     have cpl:=(h3.places st.next (by omega));have pO:st.next<g.rs.length+1:=(by omega);have ME:=h3.nc st.next
     go_wp2_with fail
     go_region
     all_goals go_wp2_with (at_lookup;refine Bu _ rfl _ _ 65 rfl 9 3 .i64 rQ underlying65 underlying3 (xL _) g.bn _ D rfl hD.drew _ _ rfl jk ?_;intro c iV yE)
     all_goals
      have h4:=h3.nil (aa.refl af w3).drew
      have EN:Hid (mZ g st.next aC=aC.eo 6 (g.ps.getD st.next 0)):=by
       show mZ g st.next aC=_
       unfold mZ JQ;rw[Kt.o,qB];rfl
      clear hD FU;refine(He h4 6 _ (by omega) ME).mono ?_;rintro e w5 ⟨rfl,h5,gE⟩;go_wp2_with fail;refine(tn h5 _ Jz (by rfl) (by decide)).mono ?_;rintro e w6 ⟨rfl,h6,gP⟩;go_wp2_with fail;go_end0;refine⟨rfl,?_,(gy.drew.trans gE).trans gP⟩;unfold pz;rw[lF.o,<-Ii.o,EN.o];exact h6
   ·have h3:=hr;obtain⟨w3,VL⟩:∃w3,w3=wr:=⟨_,rfl⟩
    have gy:=hk;rw[<-VL]at h3 gy⊢;have ajR:=VL;clear ajR mq;subst VL;have tW:=h3.apart;have FW:=h3.nD;have c0:w3.cell? ⟨g.b,0,none⟩=some (.slice (some ⟨g.br,0,none⟩) g.rs.length g.cr):=by rw[<-mj];exact h3.aj.cell 0
    have c1:w3.cell? ⟨g.b,1,none⟩=some (.slice (some ⟨g.bp,0,none⟩) (g.rs.length+1) g.cp):=h3.aj.cell 1;have c2:w3.cell? ⟨g.b,2,none⟩=some (.int .i64 aC.next):=h3.aj.cell 2;have c4:w3.cell? ⟨g.b,5,none⟩=some (.int .i64 aC.aR):=h3.aj.cell 5;have c5:w3.cell? ⟨g.b,6,none⟩=some (.map (some g.bn)):=h3.aj.cell 6;have FU:=(acR (w:=w3.drew) g st.next aC.next FW ia hle (fun i hi=>h3.gF i hi));have ajf:aC.next<=g.cr:=(by omega);have aP:=acS g st.next aC.next hle hl
    generalize Mk:runesBytes ((g.rs.take aC.next).drop st.next)=kb at FU aP
    have Kt:Hid (runesBytes ((g.rs.take aC.next).drop st.next)=kb):=Mk;clear Mk;obtain⟨D,hD,hN⟩:=h3.nm;have jk:keyOf prog 9 (.string kb)=some (.string kb.data.toList):=El underlying9 aP;have Un:Maps.size D<maxLen:=by rw[hN.size];have:=h3.names;have:=h3.aR;unfold maxLen;omega
    cases qB:aC.names.any (fun p=>p.1==kb.data.toList)
    ·have hh:has D (.string kb.data.toList)=false:=by rw[hN.has];exact qB
     have dN:aC.aR<=300:=by have:=h3.aR;omega
     obtain⟨w4,sY,My,Mg⟩:=(hD.drew.drew).update (t:=65) (e:=3) rQ underlying65 Un jk (plainElem_int (H:=Unit) (a:=(aC.aR:Int)) underlying3 (Dd (by omega)));go_wp2_with fail;go_region;all_goals go_wp2_with (at_lookup;refine Bu _ rfl _ _ 65 rfl 9 3 .i64 rQ underlying65 underlying3 (xL _) g.bn _ D rfl hD.drew _ _ rfl jk ?_;intro c iV yE)
     all_goals go_region
     all_goals go_wp2_with fail
     all_goals
      have rA:=hN.put (hD.tidy rQ) kb.data.toList aC.aR qB;have dC:aa (fun i=>i=g.bn) w3 w4:=((aa.refl _ _).drew.drew).eQ Mg (fun k hk=>Or.inl (by cases hk;rfl));have e4:Maps.size (D.put (.string kb.data.toList) (.lit (.int .i64 aC.aR)))=Maps.size D+1:=by rw[rA.size,hN.size];simp
      have h4:=h3.named _ (e4▸My) rA dC (by have:=HG.o;simp only[Av];rw[this.2,this.1,BE.2,BE.1];omega);have cW:aa g.au w w4:=gy.trans (dC.mono (fun i hi=>by simp[RG.au,hi]))
      have EN:Hid (mZ g st.next aC={aC with names:=(kb.data.toList,aC.aR)::aC.names}):=by
       show mZ g st.next aC=_
       unfold mZ JQ;rw[Kt.o,qB];rfl
      clear sY My Mg hD FU;refine(tn h4 _ Jz (by rfl) (by decide)).mono ?_;rintro e w5 ⟨rfl,h5,gE⟩;go_wp2_with fail;go_end0;refine⟨rfl,?_,cW.trans gE⟩;unfold pz;rw[lF.o,<-Ii.o,EN.o];exact h5
    ·have hh:has D (.string kb.data.toList)=true:=by rw[hN.has];exact qB
     have cpl:=(h3.places st.next (by omega));have pO:st.next<g.rs.length+1:=(by omega);have ME:=h3.nc st.next
     go_wp2_with fail
     go_region
     all_goals go_wp2_with (at_lookup;refine Bu _ rfl _ _ 65 rfl 9 3 .i64 rQ underlying65 underlying3 (xL _) g.bn _ D rfl hD.drew _ _ rfl jk ?_;intro c iV yE)
     all_goals
      have h4:=h3.nil (aa.refl af w3).drew
      have EN:Hid (mZ g st.next aC=aC.eo 6 (g.ps.getD st.next 0)):=by
       show mZ g st.next aC=_
       unfold mZ JQ;rw[Kt.o,qB];rfl
      clear hD FU;refine(He h4 6 _ (by omega) ME).mono ?_;rintro e w5 ⟨rfl,h5,gE⟩;go_wp2_with fail;refine(tn h5 _ Jz (by rfl) (by decide)).mono ?_;rintro e w6 ⟨rfl,h6,gP⟩;go_wp2_with fail;go_end0;refine⟨rfl,?_,(gy.drew.trans gE).trans gP⟩;unfold pz;rw[lF.o,<-Ii.o,EN.o];exact h6
