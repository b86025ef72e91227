/- The reader of the program -/
import Derived.Test.YtpdnofhackjfdaaGreatDoorP01
set_option linter.all false
set_option maxRecDepth 100000
set_option maxHeartbeats 1000000
namespace Go.Proofs.YtpdnofhackjfdaaGreatDoor
open Go.Proofs.Tryz
open Go.RowKit Go.Maps
variable {fo:Bool} {g:RG} {st:RS} {w:World}
theorem xA(h:aR w g fo st)(s:ByteArray)(l:List UInt8)(hl:s.data.toList=l)(hs:∀b∈l,b.toNat<128):
 Calls prog 107 #[.pointer (some ⟨g.b,0,none⟩),.string s] w fun e w'=>e=.returned (.bool (aG l (ay g st)))/\aR w' g fo st/\aa g.au w w':=by
 subst hl;exact(Np h s hs).mono fun e w' ⟨he,hk⟩=>⟨he,h.nil hk,hk.mono (fun _ hx=>hx.elim)⟩
theorem nM(h:aR w g fo st):
 Calls prog 57 #[.pointer (some ⟨g.b,0,none⟩)] w fun e w'=>e=.returned (.int .i32 (ay g st))/\aR w' g fo st/\aa g.au w w':=
 (No h).mono fun e w' ⟨he,hk⟩=>⟨he,h.nil hk,hk.mono (fun _ hx=>hx.elim)⟩
theorem Q_(h:aR w g fo st):
 Calls prog 84 #[.pointer (some ⟨g.b,0,none⟩)] w fun e w'=>e=.returned (.int .i64 (qP g st))/\aR w' g fo st/\aa g.au w w':=
 (ad1 h).mono fun e w' ⟨he,hk⟩=>⟨he,h.nil hk,hk.mono (fun _ hx=>hx.elim)⟩
theorem jr(h:aR w g fo st)(s:ByteArray)(l:List UInt8)(hl:s.data.toList=l)(hs:∀b∈l,b.toNat<128)(hy:aG l (ay g st)=true):
 Calls prog 83 #[.pointer (some ⟨g.b,0,none⟩),.string s] w fun e w'=>e=.returned (.bool true)/\aR w' g fo {st with next:=st.next+1}/\aa g.au w w':=by
 subst hl;exact Xt h s hs hy
theorem iX(h:aR w g fo st)(s:ByteArray)(l:List UInt8)(hl:s.data.toList=l)(hs:∀b∈l,b.toNat<128)(hy:aG l (ay g st)=false):
 Calls prog 83 #[.pointer (some ⟨g.b,0,none⟩),.string s] w fun e w'=>e=.returned (.bool false)/\aR w' g fo st/\aa g.au w w':=by
 subst hl;exact Xs h s hs hy
theorem RB(h:aR w g fo st)(s:ByteArray)(l:List UInt8)(hl:s.data.toList=l)(hs:∀b∈l,b.toNat<128):
 Calls prog 83 #[.pointer (some ⟨g.b,0,none⟩),.string s] w fun e w'=>e=.returned (.bool (aG l (ay g st)))/\aR w' g fo (fg g l st)/\aa g.au w w':=by
 subst hl;exact an_ h s hs
theorem tf(h:aR w g fo st)(s:ByteArray)(l:List UInt8)(hl:s.data.toList=l)(hs:∀b∈l,b.toNat<128):
 Calls prog 163 #[.pointer (some ⟨g.b,0,none⟩),.string s] w fun e w'=>e=.returned (.tuple #[])/\aR w' g fo (eI g l st)/\aa g.au w w':=by
 subst hl;exact ak4 h s hs
theorem acU(h:aR w g fo st)(s:ByteArray)(l:List UInt8)(hl:s.data.toList=l)(hs:∀b∈l,b.toNat<128):
 Calls prog 136 #[.pointer (some ⟨g.b,0,none⟩),.string s] w fun e w'=>e=.returned (.int .i32 (ay g st))/\aR w' g fo (pT g l st)/\aa g.au w w':=by
 subst hl;exact ak2 h s hs
theorem QY(g:RG)(st:RS):0<=(jo g st).2/\(jo g st).2<=9:=by
 unfold jo
 cases h:aG vP (ay g st)
 ·simp
 ·have:=VD h;simp;omega
theorem OX(h:aR w g fo st):
 Calls prog 184 #[.pointer (some ⟨g.b,0,none⟩)] w fun e w'=>e=.returned (.int .i64 (jo g st).2)/\aR w' g fo (jo g st).1/\aa g.au w w':=by
 unfold jo
 cases hy:aG vP (ay g st)
 ·go_in
  go_wp2_with fail
  refine(nM h).mono ?_;rintro e w1 ⟨rfl,h1,aT⟩;go_wp2_with fail;refine(iX h1 _ vP (by rfl) (by decide) hy).mono ?_;rintro e w2 ⟨rfl,h2,aO⟩;go_wp2_with fail;refine(Ni h2).mono ?_;rintro e w3 ⟨rfl,h3,bA⟩;go_wp2_with fail;go_ret;exact⟨rfl,h3,(aT.trans aO).trans bA⟩
 ·have hd:=VD hy;go_in;go_wp2_with fail;refine(nM h).mono ?_;rintro e w1 ⟨rfl,h1,aT⟩;go_wp2_with fail;refine(jr h1 _ vP (by rfl) (by decide) hy).mono ?_;rintro e w2 ⟨rfl,h2,aO⟩;obtain⟨d,ER,rC,PB⟩:∃d:Int,ay g st=d+48/\0<=d/\d<=9:=⟨ay g st-48,by omega,by omega,by omega⟩
  have HD:Hid (ay g st=d+48):=ER;rw[ER];clear hd ER hy;go_wp2_with fail;go_ret;exact⟨by rw[HD.out];simp,h2,aT.trans aO⟩
theorem QO(h:aR w g fo st):
 Calls prog 162 #[.pointer (some ⟨g.b,0,none⟩)] w fun e w'=>e=.returned (.int .i64 (fA g st).2)/\aR w' g fo (fA g st).1/\aa g.au w w':=by
 have r1:=QY g st;have r2:=QY g (jo g st).1;unfold fA;by_cases hp:0<(jo g st).2
 ·cases hy:aG vP (ay g (jo g st).1)
  ·rw[if_neg (by simp)];go_in;go_wp2_with fail;refine(OX h).mono ?_;rintro e w1 ⟨rfl,h1,aT⟩;go_wp2_with fail;refine(xA h1 _ vP (by rfl) (by decide)).mono ?_;rintro e w2 ⟨rfl,h2,aO⟩;rw[hy];go_wp2_with fail;go_ret;exact⟨rfl,h2,aT.trans aO⟩
  ·rw[if_pos ⟨hp,rfl⟩];go_in;go_wp2_with fail;refine(OX h).mono ?_;rintro e w1 ⟨rfl,h1,aT⟩;go_wp2_with fail;refine(xA h1 _ vP (by rfl) (by decide)).mono ?_;rintro e w2 ⟨rfl,h2,aO⟩;rw[hy];go_wp2_with fail;refine(OX h2).mono ?_;rintro e w3 ⟨rfl,h3,bA⟩;go_wp2_with fail;go_ret;exact⟨rfl,h3,(aT.trans aO).trans bA⟩
 ·rw[if_neg (by simp[hp])];go_in;go_wp2_with fail;refine(OX h).mono ?_;rintro e w1 ⟨rfl,h1,aT⟩;go_wp2_with fail;go_ret;exact⟨rfl,h1,aT⟩
theorem Q3(g:RG)(st:RS):0<=(fA g st).2/\(fA g st).2<=99:=by
 have r1:=QY g st;have r2:=QY g (jo g st).1;unfold fA;split
 ·simp;omega
 ·omega
theorem agh(h:aR w g fo st):
 Calls prog 130 #[.pointer (some ⟨g.b,0,none⟩)] w fun e w'=>e=.returned (.tuple #[.int .i64 (ey g st).2.1,.int .i64 (ey g st).2.2])/\aR w' g fo (ey g st).1/\aa g.au w w':=by
 have r1:=Q3 g st;have r2:=Q3 g {(fA g st).1 with next:=(fA g st).1.next+1};unfold ey
 cases hc:aG MM (ay g (fA g st).1)
 ·go_in
  go_wp2_with fail
  refine(QO h).mono ?_;rintro e w1 ⟨rfl,h1,aT⟩;go_wp2_with fail;refine(iX h1 _ MM (by rfl) (by decide) hc).mono ?_;rintro e w2 ⟨rfl,h2,aO⟩;go_wp2_with fail;refine(tf h2 _ vO (by rfl) (by decide)).mono ?_;rintro e w3 ⟨rfl,h3,bA⟩;go_wp2_with fail;go_ret2;exact⟨rfl,h3,(aT.trans aO).trans bA⟩
 ·unfold r_
  cases hb:aG vO (ay g {(fA g st).1 with next:=(fA g st).1.next+1})
  ·go_in
   go_wp2_with fail
   refine(QO h).mono ?_;rintro e w1 ⟨rfl,h1,aT⟩;go_wp2_with fail;refine(jr h1 _ MM (by rfl) (by decide) hc).mono ?_;rintro e w2 ⟨rfl,h2,aO⟩;go_wp2_with fail;refine(xA h2 _ vO (by rfl) (by decide)).mono ?_;rintro e w3 ⟨rfl,h3,bA⟩;rw[hb];go_wp2_with fail;refine(QO h3).mono ?_;rintro e w4 ⟨rfl,h4,dA⟩;go_wp2_with fail;refine(tf h4 _ vO (by rfl) (by decide)).mono ?_;rintro e w5 ⟨rfl,h5,cV⟩;go_wp2_with fail;go_ret2;exact⟨rfl,h5,(((aT.trans aO).trans bA).trans dA).trans cV⟩
  ·go_in
   go_wp2_with fail
   refine(QO h).mono ?_;rintro e w1 ⟨rfl,h1,aT⟩;go_wp2_with fail;refine(jr h1 _ MM (by rfl) (by decide) hc).mono ?_;rintro e w2 ⟨rfl,h2,aO⟩;go_wp2_with fail;refine(xA h2 _ vO (by rfl) (by decide)).mono ?_;rintro e w3 ⟨rfl,h3,bA⟩;rw[hb];go_wp2_with fail;refine(tf h3 _ vO (by rfl) (by decide)).mono ?_;rintro e w5 ⟨rfl,h5,cV⟩;go_wp2_with fail;go_ret2;exact⟨rfl,h5,((aT.trans aO).trans bA).trans cV⟩
theorem aaN(h:aR w g fo st):
 Calls prog 168 #[.pointer (some ⟨g.b,0,none⟩)] w fun e w'=>e=.returned (.int .i32 (qp (ay g st)))/\aR w' g fo (eI g GH st)/\aa g.au w w':=by
 go_in
 go_wp2_with fail
 refine(nM h).mono ?_;rintro e w1 ⟨rfl,h1,aT⟩;go_wp2_with fail;refine(tf h1 _ GH (by rfl) (by decide)).mono ?_;rintro e w2 ⟨rfl,h2,aO⟩;go_wp2_with fail;all_goals go_ret
 all_goals refine⟨?_,h2,aT.trans aO⟩
 all_goals(simp only[Gb,beq_eq_false_iff_ne,ne_eq]at*;simp[qp, *])
theorem Wj(qo:Bool)(h:aR w g fo st):
 Calls prog 185 #[.pointer (some ⟨g.b,0,none⟩),.bool qo] w fun e w'=>e=.returned (.int .i32 (lQ g qo st).2)/\aR w' g fo (lQ g qo st).1/\aa g.au w w':=by
 unfold lQ
 cases qo
 ·go_in
  go_wp2_with fail
  refine(acU h _ acy (by rfl) (by decide)).mono ?_;rintro e w2 ⟨rfl,h2,aO⟩;go_wp2_with fail;go_ret;exact⟨rfl,h2,aO⟩
 ·go_in
  go_wp2_with fail
  refine(aaN h).mono ?_;rintro e w2 ⟨rfl,h2,aO⟩;go_wp2_with fail;go_ret;exact⟨rfl,h2,aO⟩
theorem adf(h:aR w g fo (fg g gj st)):
 Calls prog 185 #[.pointer (some ⟨g.b,0,none⟩),.bool (aG gj (ay g st))] w fun e w'=>e=.returned (.int .i32 (dd g st).2)/\aR w' g fo (dd g st).1/\aa g.au w w':=Wj _ h
theorem WJ(g:RG)(st:RS):(G_ g st).next=g.rs.length:=rfl
theorem Wf(st:RS)(e p:Int):(st.eu e p).next=st.next:=rfl
theorem xr(g:RG)(l:List UInt8)(st:RS)(h:st.next<=g.rs.length):st.next<=(eI g l st).next/\(eI g l st).next<=g.rs.length/\(st.next<g.rs.length->st.next<(eI g l st).next):=by
 unfold eI
 cases hc:aG l (ay g st)
 ·simp[WJ];exact h
 ·have:=jU hc;simp;omega
theorem acV(g:RG)(l:List UInt8)(st:RS)(h:st.next<=g.rs.length):st.next<=(pT g l st).next/\(pT g l st).next<=g.rs.length/\(st.next<g.rs.length->st.next<(pT g l st).next):=by
 unfold pT;by_cases hc:ay g st= -1\/aG l (ay g st)=true
 ·rw[if_pos hc];simp[WJ];exact h
 ·rw[if_neg hc];have:=V3 (fun e=>hc (Or.inl e));simp;omega
theorem JG(g:RG)(l:List UInt8)(st:RS)(h:st.next<=g.rs.length):st.next<=(fg g l st).next/\(fg g l st).next<=g.rs.length:=by
 unfold fg
 cases hc:aG l (ay g st)
 ·simp;exact h
 ·have:=jU hc;simp;omega
theorem ama(g:RG)(qo:Bool)(st:RS)(h:st.next<=g.rs.length):st.next<=(lQ g qo st).1.next/\(lQ g qo st).1.next<=g.rs.length/\(st.next<g.rs.length->st.next<(lQ g qo st).1.next):=by
 unfold lQ
 cases qo
 ·exact acV g _ st h
 ·exact xr g _ st h
theorem adM(g:RG)(st:RS)(h:st.next<=g.rs.length):st.next<=(dd g st).1.next/\(dd g st).1.next<=g.rs.length/\(st.next<g.rs.length->st.next<(dd g st).1.next):=by
 have h1:=JG g gj st h;have h2:=ama g (aG gj (ay g st)) (fg g gj st) h1.2;refine⟨by show st.next<=(lQ g _ (fg g gj st)).1.next;omega,h2.2.1,fun aw=>?_⟩;show st.next<(lQ g _ (fg g gj st)).1.next
 cases hc:aG gj (ay g st)
 ·have e:fg g gj st=st:=by simp[fg,hc]
  rw[hc,e]at h2;rw[e];exact h2.2.2 aw
 ·have e:(fg g gj st).next=st.next+1:=by simp[fg,hc]
  rw[hc]at h2;omega
theorem amc(g:RG)(p:Int)(x:RS×Int)(h:x.1.next<=g.rs.length):x.1.next<=(qN g p x).next/\(qN g p x).next<=g.rs.length:=by
 unfold qN
 cases hc:aG xo (ay g x.1)
 ·simp;exact h
 ·have hl:=jU hc;have h1:=adM g {x.1 with next:=x.1.next+1} (by simp;omega);simp only at h1;simp only[if_true];split
  ·simp only[Wf];omega
  ·omega
theorem Ww(g:RG)(st:RS)(h:st.next<=g.rs.length):st.next<=(fT g st).next/\(fT g st).next<=g.rs.length/\(st.next<g.rs.length->st.next<(fT g st).next):=by
 unfold fT;by_cases hc:aG gj (ay g st)=true/\aG mq (ay g {st with next:=st.next+1})=true
 ·rw[if_pos hc];have:=jU hc.2;simp at*;omega
 ·rw[if_neg hc];have h1:=adM g st h;have h2:=amc g (qP g st) (dd g st) h1.2.1;omega
theorem al0(g:RG)(m:Nat)(st:RS)(h:ay g st= -1\/aG pR (ay g st)=true):mw g m st=st:=by
 cases m with
 |zero=>rfl
 |succ m=>unfold mw;rw[if_pos h]
theorem adF(g:RG):∀(m:Nat) (st:RS),st.next<=g.rs.length->st.next<=(mw g m st).next/\(mw g m st).next<=g.rs.length
 |0,st,h=>⟨Ab _,h⟩
 |m+1,st,h=>by
  unfold mw;split
  ·exact⟨Ab _,h⟩
  ·have h1:=Ww g st h;have h2:=adF g m (fT g st) h1.2.1;omega
theorem alW(g:RG)(st:RS)(h:st.next<=g.rs.length):st.next<=(rZ g st).next/\(rZ g st).next<=g.rs.length:=by
 unfold rZ;have h1:=JG g td st h;have h2:=Ww g _ h1.2;have h3:=adF g (g.rs.length+1) _ h2.2.1;have h4:=xr g pR _ h3.2;omega
theorem al1(g:RG)(first m:Nat)(st:RS)(h:¬(st.next<first+8/\aG oz (ay g st)=true)):ly g first m st=st:=by
 cases m with
 |zero=>rfl
 |succ m=>unfold ly;rw[if_neg h]
theorem adJ(g:RG)(first:Nat):∀(m:Nat) (st:RS),st.next<=g.rs.length->st.next<=(ly g first m st).next/\(ly g first m st).next<=g.rs.length
 |0,st,h=>⟨Ab _,h⟩
 |m+1,st,h=>by
  unfold ly;split
  ·rename_i hc
   have hl:=jU hc.2;have h2:=(adJ g first m {st with next:=st.next+1} (by simp;omega));simp only at h2;omega
  ·exact⟨Ab _,h⟩
theorem al8(g:RG)(first:Nat)(st:RS):(mO g first st).next=st.next:=by unfold mO;split<;>rfl
theorem al5(g:RG)(st:RS)(h:st.next<=g.rs.length):st.next<=(pg g st).next/\(pg g st).next<=g.rs.length:=by
 unfold pg;have h1:=xr g oz st h;have h2:=adJ g st.next (g.rs.length+9) _ h1.2.1
 have h3:=al8 g st.next (ly g st.next (g.rs.length+9) (eI g oz st))
 have h4:=xr g Jl (mO g st.next (ly g st.next (g.rs.length+9) (eI g oz st))) (by omega);omega
theorem ak5(g:RG)(l:List UInt8)(st:RS):(eI g l st).aQ=st.aQ/\(eI g l st).names=st.names:=by
 unfold eI;split<;>exact⟨rfl,rfl⟩
theorem acT(g:RG)(a b:Nat)(hb:b<=g.rs.length)(hl:g.rs.length<=300):(runesBytes ((g.rs.take b).drop a)).size<=maxLen:=by
 have h1:=runesBytes_size_le ((g.rs.take b).drop a);have h2:((g.rs.take b).drop a).length<=300:=by simp;omega
 unfold maxLen;omega
theorem acS(g:RG)(a b:Nat)(EM:g.rs.length<=g.cr)(lq:a<=b)(hb:b<=g.rs.length)(hc:∀i,i<g.rs.length->w.cell? ⟨g.br,i,none⟩=some (.int .i32 (g.rs.getD i 0))):
 (convert 96 9 (.slice (if g.cr=a then some ⟨g.br,0,none⟩else some ⟨g.br,a,none⟩) (b-a) (g.cr-a))).run prog w=.ok (.string (runesBytes ((g.rs.take b).drop a))) w:=by
 by_cases h:g.cr=a
 ·have e:(g.rs.take b).drop a=[]:=by simp;omega
  rw[if_pos h,e];have:=run_convert_runes (P:=prog) w 96 9 21 ⟨g.br,0,none⟩ (b-a) (g.cr-a) [] (by simp;omega) underlying96 underlying21 underlying9 (fun j hj=>by simp at hj);simpa using this
 ·rw[if_neg h]
  have:=run_convert_runes (P:=prog) w 96 9 21 ⟨g.br,a,none⟩ (b-a) (g.cr-a) ((g.rs.take b).drop a) (by simp;omega) underlying96 underlying21 underlying9 (fun j hj=>by
   have LZ:a+j<b:=by simp at hj;omega
   have yp:(Addr.add ⟨g.br,a,none⟩ j)=⟨g.br,a+j,none⟩:=by
    unfold Addr.add;split
    ·rename_i hz;simp
    ·rfl
   rw[yp,hc (a+j) (by omega)];congr 2;simp[List.getD,Dl,Av LZ])
  rw[this,By (by simp;omega)]
theorem ak1(h:aR w g fo st)(h0:0<g.rs.length)(Qf:st.names.length<st.aQ):
 Calls prog 165 #[.pointer (some ⟨g.b,0,none⟩)] w fun e w'=>e=.returned (.tuple #[])/\aR w' g fo (pg g st)/\aa g.au w w':=by
 have lN:=h.next
 have hl:=h.len;have c2:w.cell? ⟨g.b,2,none⟩=some (.int .i64 st.next):=h.ak.cell 2;go_in;go_wp2_with fail;refine(tf h _ oz (by rfl) (by decide)).mono ?_;rintro e w1 ⟨rfl,h1,aT⟩;clear c2;go_wp2_with fail;have o9:=xr g oz st lN;have AT:=ak5 g oz st;generalize bt:eI g oz st=dz at h1 o9 AT;have lF:Hid (eI g oz st=dz):=bt;clear bt;go_loopg [22] (g.rs.length-dz.next) (fun k _ wr=>∃aA m,aR wr g fo aA/\Hid (ly g st.next m aA=ly g st.next (g.rs.length+9) dz)/\k=g.rs.length-aA.next/\k<m/\st.next<=aA.next/\Hid (aA.aQ=dz.aQ/\aA.names=dz.names)/\aa g.au w wr)
 case atStart=>exact⟨dz,g.rs.length+9,h1,rfl,rfl,by omega,by omega,⟨rfl,rfl⟩,aT⟩
 case round=>
  obtain⟨aA,m,hr,HP,rfl,hm,im,HG,hk⟩:=hrel;have hle:=hr.next
  clear h1 aT;have c2:wr.cell? ⟨g.b,2,none⟩=some (.int .i64 aA.next):=hr.ak.cell 2;by_cases kh:aA.next<st.next+8/\aG oz (ay g aA)=true
  ·obtain⟨rI,AS⟩:=kh;have aw:=jU AS;go_wp2_with fail;refine(xA hr _ oz (by rfl) (by decide)).mono ?_;rintro e w3 ⟨rfl,h3,bA⟩;rw[AS];have c3:w3.cell? ⟨g.b,2,none⟩=some (.int .i64 aA.next):=h3.ak.cell 2;have f3:=h3.ak.frozen 2;go_wp2_with fail;go_roundg (g.rs.length-(aA.next+1))
   case measure=>omega
   case rel=>
    have h4:=h3.Rm (aA.next+1) (by omega) (by have:=h3.aQ;omega);refine⟨{aA with next:=aA.next+1},m-1,by simpa using h4,?_,rfl,by omega,by simp;omega,HG,(hk.trans bA).trans (yT g 2 _)⟩;rw[<-HP.out];obtain⟨m',rfl⟩:∃m',m=m'+1:=⟨m-1,by omega⟩
    show ly g st.next m' _=ly g st.next (m'+1) aA
    rw[show ly g st.next (m'+1) aA=if aA.next<st.next+8/\aG oz (ay g aA)=true then ly g st.next m' {aA with next:=aA.next+1}else aA from rfl,if_pos ⟨rI,AS⟩]
  ·have hP:=HP.out;rw[al1 g st.next m aA kh]at hP;have Hx:Hid (aA=ly g st.next (g.rs.length+9) dz):=hP;clear hP HP c2;have me:=hr.isSome h0;by_cases h8:aA.next<st.next+8
   ·have hs:aG oz (ay g aA)=false:=by
     cases hs:aG oz (ay g aA)
     ·rfl
     ·exact absurd ⟨h8,hs⟩ kh
    clear kh;have c2:wr.cell? ⟨g.b,2,none⟩=some (.int .i64 aA.next):=hr.ak.cell 2;go_wp2_with fail;refine(xA hr _ oz (by rfl) (by decide)).mono ?_;rintro e w3 ⟨rfl,h3,bA⟩;rw[hs];clear c2;have gA:=hk.trans bA;have tT:=h3.apart;have EM:=h3.np;have c0:w3.cell? ⟨g.b,0,none⟩=some (.slice (some ⟨g.br,0,none⟩) g.rs.length g.cr):=by rw[<-me];exact h3.ak.cell 0
    have c1:w3.cell? ⟨g.b,1,none⟩=some (.slice (some ⟨g.bp,0,none⟩) (g.rs.length+1) g.cp):=h3.ak.cell 1;have c2:w3.cell? ⟨g.b,2,none⟩=some (.int .i64 aA.next):=h3.ak.cell 2;have c4:w3.cell? ⟨g.b,5,none⟩=some (.int .i64 aA.aQ):=h3.ak.cell 5;have c5:w3.cell? ⟨g.b,6,none⟩=some (.map (some g.bn)):=h3.ak.cell 6;have EK:=(acS (w:=w3.drew) g st.next aA.next EM im hle (fun i hi=>h3.gI i hi));have ai1:aA.next<=g.cr:=(by omega);have aS:=acT g st.next aA.next hle hl
    generalize L6:runesBytes ((g.rs.take aA.next).drop st.next)=kb at EK aS
    have Ke:Hid (runesBytes ((g.rs.take aA.next).drop st.next)=kb):=L6;clear L6;obtain⟨D,hD,hN⟩:=h3.nm;have ji:keyOf prog 9 (.string kb)=some (.string kb.data.toList):=Eg underlying9 aS;have Ua:Maps.size D<maxLen:=by rw[hN.size];have:=h3.names;have:=h3.aQ;unfold maxLen;omega
    cases qy:aA.names.any (fun p=>p.1==kb.data.toList)
    ·have hh:has D (.string kb.data.toList)=false:=by rw[hN.has];exact qy
     have dK:aA.aQ<=300:=by have:=h3.aQ;omega
     obtain⟨w4,sX,Mj,LX⟩:=(hD.drew.drew).update (t:=65) (e:=3) rR underlying65 Ua ji (plainElem_int (H:=Unit) (a:=(aA.aQ:Int)) underlying3 (C9 (by omega)));go_wp2_with fail;go_region;all_goals go_wp2_with (at_lookup;refine Br _ rfl _ _ 65 rfl 9 3 .i64 rR underlying65 underlying3 (xJ _) g.bn _ D rfl hD.drew _ _ rfl ji ?_;intro c iT yE)
     all_goals go_region
     all_goals go_wp2_with fail
     all_goals
      have rz:=hN.put (hD.tidy rR) kb.data.toList aA.aQ qy;have dA:aa (fun i=>i=g.bn) w3 w4:=((aa.refl _ _).drew.drew).eN LX (fun k hk=>Or.inl (by cases hk;rfl));have e4:Maps.size (D.put (.string kb.data.toList) (.lit (.int .i64 aA.aQ)))=Maps.size D+1:=by rw[rz.size,hN.size];simp
      have h4:=h3.named _ (e4▸Mj) rz dA (by have:=HG.out;simp only[Ax];rw[this.2,this.1,AT.2,AT.1];omega);have cV:aa g.au w w4:=gA.trans (dA.mono (fun i hi=>by simp[RG.au,hi]))
      have EN:Hid (mO g st.next aA={aA with names:=(kb.data.toList,aA.aQ)::aA.names}):=by
       show mO g st.next aA=_
       unfold mO JA;rw[Ke.out,qy];rfl
      clear sX Mj LX hD EK;refine(tf h4 _ Jl (by rfl) (by decide)).mono ?_;rintro e w5 ⟨rfl,h5,gF⟩;go_wp2_with fail;go_end0;refine⟨rfl,?_,cV.trans gF⟩;unfold pg;rw[lF.out,<-Hx.out,EN.out];exact h5
    ·have hh:has D (.string kb.data.toList)=true:=by rw[hN.has];exact qy
     have cpl:=(h3.places st.next (by omega));have pL:st.next<g.rs.length+1:=(by omega);have Mp:=h3.mP st.next
     go_wp2_with fail
     go_region
     all_goals go_wp2_with (at_lookup;refine Br _ rfl _ _ 65 rfl 9 3 .i64 rR underlying65 underlying3 (xJ _) g.bn _ D rfl hD.drew _ _ rfl ji ?_;intro c iT yE)
     all_goals
      have h4:=h3.nil (aa.refl af w3).drew
      have EN:Hid (mO g st.next aA=aA.eu 6 (g.ps.getD st.next 0)):=by
       show mO g st.next aA=_
       unfold mO JA;rw[Ke.out,qy];rfl
      clear hD EK;refine(GM h4 6 _ (by omega) Mp).mono ?_;rintro e w5 ⟨rfl,h5,gF⟩;go_wp2_with fail;refine(tf h5 _ Jl (by rfl) (by decide)).mono ?_;rintro e w6 ⟨rfl,h6,iE⟩;go_wp2_with fail;go_end0;refine⟨rfl,?_,(gA.drew.trans gF).trans iE⟩;unfold pg;rw[lF.out,<-Hx.out,EN.out];exact h6
   ·have h3:=hr;obtain⟨w3,Vw⟩:∃w3,w3=wr:=⟨_,rfl⟩
    have gA:=hk;rw[<-Vw]at h3 gA⊢;have ajA:=Vw;clear ajA kh;subst Vw;have tT:=h3.apart;have EM:=h3.np;have c0:w3.cell? ⟨g.b,0,none⟩=some (.slice (some ⟨g.br,0,none⟩) g.rs.length g.cr):=by rw[<-me];exact h3.ak.cell 0
    have c1:w3.cell? ⟨g.b,1,none⟩=some (.slice (some ⟨g.bp,0,none⟩) (g.rs.length+1) g.cp):=h3.ak.cell 1;have c2:w3.cell? ⟨g.b,2,none⟩=some (.int .i64 aA.next):=h3.ak.cell 2;have c4:w3.cell? ⟨g.b,5,none⟩=some (.int .i64 aA.aQ):=h3.ak.cell 5;have c5:w3.cell? ⟨g.b,6,none⟩=some (.map (some g.bn)):=h3.ak.cell 6;have EK:=(acS (w:=w3.drew) g st.next aA.next EM im hle (fun i hi=>h3.gI i hi));have ai1:aA.next<=g.cr:=(by omega);have aS:=acT g st.next aA.next hle hl
    generalize L6:runesBytes ((g.rs.take aA.next).drop st.next)=kb at EK aS
    have Ke:Hid (runesBytes ((g.rs.take aA.next).drop st.next)=kb):=L6;clear L6;obtain⟨D,hD,hN⟩:=h3.nm;have ji:keyOf prog 9 (.string kb)=some (.string kb.data.toList):=Eg underlying9 aS;have Ua:Maps.size D<maxLen:=by rw[hN.size];have:=h3.names;have:=h3.aQ;unfold maxLen;omega
    cases qy:aA.names.any (fun p=>p.1==kb.data.toList)
    ·have hh:has D (.string kb.data.toList)=false:=by rw[hN.has];exact qy
     have dK:aA.aQ<=300:=by have:=h3.aQ;omega
     obtain⟨w4,sX,Mj,LX⟩:=(hD.drew.drew).update (t:=65) (e:=3) rR underlying65 Ua ji (plainElem_int (H:=Unit) (a:=(aA.aQ:Int)) underlying3 (C9 (by omega)));go_wp2_with fail;go_region;all_goals go_wp2_with (at_lookup;refine Br _ rfl _ _ 65 rfl 9 3 .i64 rR underlying65 underlying3 (xJ _) g.bn _ D rfl hD.drew _ _ rfl ji ?_;intro c iT yE)
     all_goals go_region
     all_goals go_wp2_with fail
     all_goals
      have rz:=hN.put (hD.tidy rR) kb.data.toList aA.aQ qy;have dA:aa (fun i=>i=g.bn) w3 w4:=((aa.refl _ _).drew.drew).eN LX (fun k hk=>Or.inl (by cases hk;rfl));have e4:Maps.size (D.put (.string kb.data.toList) (.lit (.int .i64 aA.aQ)))=Maps.size D+1:=by rw[rz.size,hN.size];simp
      have h4:=h3.named _ (e4▸Mj) rz dA (by have:=HG.out;simp only[Ax];rw[this.2,this.1,AT.2,AT.1];omega);have cV:aa g.au w w4:=gA.trans (dA.mono (fun i hi=>by simp[RG.au,hi]))
      have EN:Hid (mO g st.next aA={aA with names:=(kb.data.toList,aA.aQ)::aA.names}):=by
       show mO g st.next aA=_
       unfold mO JA;rw[Ke.out,qy];rfl
      clear sX Mj LX hD EK;refine(tf h4 _ Jl (by rfl) (by decide)).mono ?_;rintro e w5 ⟨rfl,h5,gF⟩;go_wp2_with fail;go_end0;refine⟨rfl,?_,cV.trans gF⟩;unfold pg;rw[lF.out,<-Hx.out,EN.out];exact h5
    ·have hh:has D (.string kb.data.toList)=true:=by rw[hN.has];exact qy
     have cpl:=(h3.places st.next (by omega));have pL:st.next<g.rs.length+1:=(by omega);have Mp:=h3.mP st.next
     go_wp2_with fail
     go_region
     all_goals go_wp2_with (at_lookup;refine Br _ rfl _ _ 65 rfl 9 3 .i64 rR underlying65 underlying3 (xJ _) g.bn _ D rfl hD.drew _ _ rfl ji ?_;intro c iT yE)
     all_goals
      have h4:=h3.nil (aa.refl af w3).drew
      have EN:Hid (mO g st.next aA=aA.eu 6 (g.ps.getD st.next 0)):=by
       show mO g st.next aA=_
       unfold mO JA;rw[Ke.out,qy];rfl
      clear hD EK;refine(GM h4 6 _ (by omega) Mp).mono ?_;rintro e w5 ⟨rfl,h5,gF⟩;go_wp2_with fail;refine(tf h5 _ Jl (by rfl) (by decide)).mono ?_;rintro e w6 ⟨rfl,h6,iE⟩;go_wp2_with fail;go_end0;refine⟨rfl,?_,(gA.drew.trans gF).trans iE⟩;unfold pg;rw[lF.out,<-Hx.out,EN.out];exact h6
end Go.Proofs.YtpdnofhackjfdaaGreatDoor
