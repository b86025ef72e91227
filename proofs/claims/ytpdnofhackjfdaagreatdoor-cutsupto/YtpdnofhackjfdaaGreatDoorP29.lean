/- Package trawl's Find -/
import Derived.Test.YtpdnofhackjfdaaGreatDoorP28
set_option linter.all false
set_option maxRecDepth 100000
set_option maxHeartbeats 8000000
namespace Go.Proofs.YtpdnofhackjfdaaGreatDoor
open Go.Proofs.Tryz
open Go.RowKit Go.Maps
variable {s:ByteArray} {f:FS} {ah j0 bh sD st:Int} {l:List (Ev×Nat)} {xs ys:List Int} {ms:List MS} {m:MS} {base g j n u:Nat} {H:Type} {oU:TypeId×Value->H} {v:Value} {W w w':World}
theorem oN.ma{lo hi:Nat}(h:oN w lo hi base v ms)(az:ms≠ [])(hle:hi<=w.heap.size)(hT:ik w):∃mb c vs,v=.slice (some ⟨mb,0,none⟩) ms.length c/\jb w lo hi mb c vs ms:=by
 obtain⟨vs,h1,h2,h3⟩:=h;obtain⟨hx,gP⟩:=h1;rcases gP with⟨_,h0⟩|⟨g,cap,aL,rfl,a1,a2,a3,a4,a5,a6⟩
 ·exact absurd (Aw.1 h0) az
 ·refine⟨g,cap,vs,rfl,⟨⟨h2,fun i hi' j hj=>?_,(Ak.1 a2).1,fun i b1 b2=>⟨(h3 i b1 b2).k,(h3 i b1 b2).nx,(h3 i b1 b2).ot⟩⟩,h3,hle,hT⟩⟩;have hf:=Pa vs i (by omega) j hj;rw[<-hf,<-a6,Av (by omega)];simp only[World.cell?,a2];simp
def rq(p s:ByteArray):List Ev:=Lj (Hf (lA p) (gG p) (ig s)) (aF s).length 0 none
theorem aaV(p s:ByteArray)(w:World)(hp:p.size<=maxLen)(hs:s.size<=10000000)(hT:ik w):Calls prog 7 #[.string p,.string s] w fun e w'=>aa af w w'/\((fN p≠0/\e=.returned (.tuple #[.slice none 0 0,.int .i64 (fN p)]))\/(fN p=0/\∃(v:Value) (l:List (Ev×Nat)),e=.returned (.tuple #[v,.int .i64 0])/\sm w' w.heap.size v s (2*gG p) l/\l.map (·.1)=rq p s)):=by
 have HT:=ab hT;clear hT;by_cases hl:300<p.size
 ·have e1:fN p=1:=if_pos hl;have F:=ab (WH p w hl hp);have HE:=ab e1;clear e1;go_in;go_wp2_with fail;refine(F.out).mono ?_;rintro e w1 ⟨rfl,k1⟩;have K1:=ab k1;clear k1 F;simp only[nL,fU];go_wp2_with fail;go_ret2;refine⟨?_,Or.inl ⟨by rw[HE.out];decide,by rw[HE.out];rfl⟩⟩;exact K1.out.alloc _
 ·have qz:p.size<=300:=by omega
  have F:=ab (WI p w qz);go_in;go_wp2_with fail;refine(F.out).mono ?_;rintro e w1 ⟨g,q,x,y,st,jv,mh,rfl,k1,bt,df⟩;obtain⟨a1,a2,a3⟩:=XB jv mh;rw[a1]at bt df;rw[a2,a3]at df;have w_:(pick (jR g p)).1=fN p:=by unfold fN;rw[if_neg hl,a3]
  have Mm:(pick (jR (ph p) p)).1=fN p:=by unfold fN;rw[if_neg hl]
  rw[w_];rw[Mm]at df;clear w_ Mm a1 a2 a3 jv mh;generalize(pick (jR g p)).2=pl;have K1:=ab k1;clear k1 F;by_cases he:fN p=0
  ·obtain⟨hx,hy,vH,xd,xj⟩:=df he;obtain⟨c1,c2,c3,c4⟩:=adY qz he;have hG:x=(gG p:Int):=by rw[hx,bt];rfl
   have Ue:gG p<=100000:=by
    have h1:=vH.aQ;have h2:=(vH.next);have h3:=vH.len;have h4:st.aQ=gG p:=by rw[bt];rfl
    simp only at h1 h2;omega
   have EP:(lA p).sz<=1000:=by have:=xd.size_eq;rw[show lA p=oS (ph p) (dz p)from rfl,this];exact c2
   subst hG;have HE:=ab he;have Oh:Hid (cy w1 w.heap.size w1.heap.size q (ee (ph p) (dz p)).2 (lA p)):=xd;rw[he];have cR:=K1.out.size;clear hx hy vH xd xj df bt he c2;simp only[nL,fU];have B2:Hid (aq (w1.alloc (.cells #[.int .i64 q.k,.slice q.pa q.pn q.pc,.slice q.sa q.sn q.sc,.int .i64 q.ed,.int .i64 q.gr,.int .i64 q.lo,.int .i64 q.hi,.bool q.lz,.int .i64 (gG p:Int),.map y] 67)) w1.heap.size #[.int .i64 q.k,.slice q.pa q.pn q.pc,.slice q.sa q.sn q.sc,.int .i64 q.ed,.int .i64 q.gr,.int .i64 q.lo,.int .i64 q.hi,.bool q.lz,.int .i64 (gG p:Int),.map y] 67):=aq.new w1 _ _;have oy:Hid (aa af w1 (w1.alloc (.cells #[.int .i64 q.k,.slice q.pa q.pn q.pc,.slice q.sa q.sn q.sc,.int .i64 q.ed,.int .i64 q.gr,.int .i64 q.lo,.int .i64 q.hi,.bool q.lz,.int .i64 (gG p:Int),.map y] 67))):=(aa.refl af w1).alloc _;go_wp2_with fail;have F:=Zf (Oh.out.kept oy.out (fun _ _ _ hx=>hx) (Ab _)) oy.out.size c1 EP (gG p:Int) y;simp only[nL,fU]at F;have F:=ab F;refine(F.out).mono ?_;rintro e w3 ⟨v',V,j,rfl,k3,fL,FQ,cT⟩;have SE:Hid (aa af w w3):=(K1.out.trans oy.out).trans k3;have qG:=k3.size;have gi:=oy.out.size;obtain⟨u0,AW,ku⟩:=fL.start;have Mh:=fL.Wl.1;have fM:(sorted (e_ (lA p)).1 V).length=V.aK.length:=(by simp[sorted]);obtain⟨mb,c,vs,Gn,IZ⟩:=FQ.ma (by intro e;have:=congrArg List.length e;rw[fM]at this;have h0:V.aK.length=0:=this;omega) (by omega) (HT.out.iU SE.out);subst Gn;have hAQ:iz (gG p:Int) (sorted (e_ (lA p)).1 V):=aeK (KV c3 c4);have F2:=afs (s:=s) (u0:=u0) (G2:=gG p) (T:=Hf (lA p) (gG p) (ig s)) IZ (fL.ft (KV c3 c4)) hAQ (by rw[fM];omega) hs (by rw[fM];exact ku) Ue (fun i hi=>fL.iy c1 EP c3 (ig s) AW hi _) (aop c3 s);rw[AW];have F2:=ab F2;generalize(sorted (e_ (lA p)).1 V).length=nn at*;clear FQ IZ fL hAQ fM Mh AW ku cT k3 F;go_wp2_with fail;refine(F2.out).mono ?_;rintro e w4 ⟨v,l,rfl,hE,FN,k4⟩
   have ax:Hid (aa af w w4/\sm w4 w.heap.size v s (2*gG p) l/\l.map (·.1)=rq p s):=by
    have pM:=SE.out.size;exact⟨SE.out.trans k4,⟨xy hE.row pM,fun r hr=>⟨by have:=(hE.fE r hr).1;omega,(hE.fE r hr).2⟩⟩,FN⟩
   clear hE FN k4 F2;go_wp2_with fail;go_ret2;exact⟨ax.out.1,Or.inr ⟨HE.out,v,l,rfl,ax.out.2.1,ax.out.2.2⟩⟩
  ·obtain⟨pe,qW⟩:∃pe,Hid (fN p=pe):=⟨_,(rfl:_=_)⟩
   rw[qW.out]at he⊢;have az:(pe !=0)=true:=(by simpa using he);have HE:=ab he;simp only[nL,fU];clear df he;go_wp2_with fail;go_ret2;exact⟨K1.out.alloc _,Or.inl ⟨by rw[qW.out];exact HE.out,by rw[qW.out];rfl⟩⟩
theorem Qw(h:aq w g (cH xs).toArray 3):∀i,i<xs.length->w.cell? ⟨g,i,none⟩=some (.int .i64 (xs.getD i 0)):=fun i hi=>by
 have:=h.cell i;rw[this];simp[cH,hi]
theorem ae2(h:xs.take j=ys.take j)(h1:j<xs.length)(h2:j<ys.length)(e:xs.getD j 0=ys.getD j 0):xs.take (j+1)=ys.take (j+1):=by
 simp only[Af,Ae h1,Ae h2,Da]at e;rw[Dv,Dv,h,Ae h1,Ae h2,e]
theorem aej{ga gb ca cb:Nat}(ha:aq w ga (cH xs).toArray 3)(hb:aq w gb (cH ys).toArray 3)(hx:xs.length=n)(hy:ys.length=n)(hn:n<=1000000):
 Calls prog 20 #[.slice (some ⟨ga,0,none⟩) n ca,.slice (some ⟨gb,0,none⟩) n cb] w fun e w'=>e=.returned (.bool (decide (xs=ys)))/\aa af w w':=by
 have HA:=ab ha;have HB:=ab hb;have HX:=ab hx;have HY:=ab hy;clear ha hb hx hy;go_enter func20,ntmps20;go_wp2_with fail;go_loopg [5] n (fun kk i wr=>∃j:Nat,i=.int .i64 j/\j<=n/\kk=n-j/\Hid (xs.take j=ys.take j)/\Hid (aa af w wr))
 case atStart=>exact⟨0,rfl,Am _,rfl,rfl,aa.refl _ _⟩
 case round=>
  obtain⟨j,rfl,hj,rfl,HT,K⟩:=hrel;by_cases aw:j<n
  ·have d1:wr.cell? ⟨ga,j,none⟩=some (.int .i64 (xs.getD j 0)):=Qw (HA.out.kept K.out (fun h=>h)) j (by rw[HX.out];exact aw);have d2:wr.cell? ⟨gb,j,none⟩=some (.int .i64 (ys.getD j 0)):=Qw (HB.out.kept K.out (fun h=>h)) j (by rw[HY.out];exact aw);obtain⟨x,CY⟩:∃x,Hid (xs.getD j 0=x):=⟨_,(rfl:_=_)⟩
   obtain⟨y,CZ⟩:∃y,Hid (ys.getD j 0=y):=⟨_,(rfl:_=_)⟩
   rw[CY.out]at d1;rw[CZ.out]at d2;by_cases e:x=y
   ·subst e;go_wp2_with fail;go_big_quiet (fail);go_wp2_with fail;go_roundg (n-(j+1))
    case measure=>omega
    case rel=>exact⟨j+1,by simp,by omega,rfl,ae2 HT.out (by rw[HX.out];exact aw) (by rw[HY.out];exact aw) (CY.out.trans CZ.out.symm),K.out.drewN _⟩
   ·have az:(x !=y)=true:=(by simpa using e);have HE:=ab e;clear e;go_wp2_with fail;go_big_quiet (fail);go_wp2_with fail;go_ret;exact⟨by rw[Bd];(try rfl);rintro rfl;exact HE.out (CY.out.symm.trans CZ.out),K.out.drewN _⟩
  ·have mg:j=n:=(by omega);subst mg;go_wp2_with fail;go_ret;have h1:=HT.out;rw[By (by rw[HX.out];exact Ab _),By (by rw[HY.out];exact Ab _)]at h1;exact⟨by rw[Cx h1]<;>rfl,K.out⟩
def QB:ByteArray:=⟨#[40,97,124,120,41,98,42]⟩
def BF:ByteArray:=⟨#[99,97,98,98,45,120]⟩
theorem akd:fN QB=0:=by kernel_rfl
theorem akf:gG QB=1:=by kernel_rfl
theorem ake:rq QB BF=[⟨1,4,[1,2]⟩,⟨5,6,[5,6]⟩]:=by kernel_rfl
theorem akc:bd BF 1=1/\bd BF 4=4/\bd BF 5=5/\bd BF 6=6:=by refine⟨?_,?_,?_,?_⟩<;>kernel_rfl
theorem acw:BF.extract 1 4=⟨#[97,98,98]⟩/\BF.extract 5 6=⟨#[120]⟩:=by refine⟨?_,?_⟩<;>kernel_rfl
theorem aaQ(s:ByteArray)(N2:Nat):∀(l:List (Ev×Nat)) (i:Nat) (h:i<l.length) (j:Nat) (hj:j<4),(Ix s N2 l)[i*4+j]? =(zP s N2 l[i].1 l[i].2)[j]?
 | [],i,h,_,_=>by simp at h
 |p::l,0,h,j,hj=>by
  show(zP s N2 p.1 p.2++Ix s N2 l)[0*4+j]? =_
  rw[A6 (by show _<4;omega),show 0*4+j=j by omega];rfl
 |p::l,i+1,h,j,hj=>by
  show(zP s N2 p.1 p.2++Ix s N2 l)[(i+1)*4+j]? =_
  rw[Bt (by show 4<=_;omega),show(i+1)*4+j-(zP s N2 p.1 p.2).length=i*4+j by show(i+1)*4+j-4=_;omega];exact aaQ s N2 l i (by simpa using h) j hj
theorem sm.get{N2:Nat}(h:sm w base v s N2 l)(az:l≠ []):∃g c,v=.slice (some ⟨g,0,none⟩) l.length c/\base<=g/\g<w.heap.size/\l.length<=c/\∀i,(hi:i<l.length)->w.cell? ⟨g,i*4,none⟩=some (.int .i64 (bd s l[i].1.a:Int))/\w.cell? ⟨g,i*4+1,none⟩=some (.int .i64 (bd s l[i].1.b:Int))/\w.cell? ⟨g,i*4+2,none⟩=some (.slice (some ⟨l[i].2,0,none⟩) N2 N2)/\w.cell? ⟨g,i*4+3,none⟩=some (.string (s.extract (bd s l[i].1.a) (bd s l[i].1.b))):=by
 obtain⟨hx,h1⟩:=h.row;rcases h1 with⟨_,h0⟩|⟨g,cap,aL,rfl,a1,a2,a3,a4,a5,a6⟩
 ·exact absurd (Aw.1 h0) az
 ·refine⟨g,cap,rfl,a1,(Ak.1 a2).1,(by omega),fun i hi=>?_⟩
  have key:∀j,j<4->w.cell? ⟨g,i*4+j,none⟩=(zP s N2 l[i].1 l[i].2)[j]? :=fun j hj=>by
   rw[<-aaQ s N2 l i hi j hj,<-a6,Av (by omega)];simp only[World.cell?,a2];simp
  exact⟨key 0 (by omega),key 1 (by omega),key 2 (by omega),key 3 (by omega)⟩
theorem aoq{a b:Ev}(h:l.map (·.1)=[a,b]):∃x y,l=[(a,x),(b,y)]:=by
 match l,h with
 | [(p,x),(q,y)],h=>simp at h;obtain⟨rfl,rfl⟩:=h;exact⟨x,y,rfl⟩
structure Oo(w:World)(g x y:Nat):Prop where
 lt:g<w.heap.size
 c0:w.cell? ⟨g,0,none⟩=some (.int .i64 1)
 c1:w.cell? ⟨g,1,none⟩=some (.int .i64 4)
 c2:w.cell? ⟨g,2,none⟩=some (.slice (some ⟨x,0,none⟩) 2 2)
 c3:w.cell? ⟨g,3,none⟩=some (.string ⟨#[97,98,98]⟩)
 d0:w.cell? ⟨g,4,none⟩=some (.int .i64 5)
 d1:w.cell? ⟨g,5,none⟩=some (.int .i64 6)
 d2:w.cell? ⟨g,6,none⟩=some (.slice (some ⟨y,0,none⟩) 2 2)
 d3:w.cell? ⟨g,7,none⟩=some (.string ⟨#[120]⟩)
theorem Oo.kept{x y:Nat}(h:Oo w g x y)(k:aa af w w'):Oo w' g x y:=by
 have kc:∀i,w'.cell? ⟨g,i,none⟩=w.cell? ⟨g,i,none⟩:=fun i=>k.cell (p:=⟨g,i,none⟩) h.lt (fun h=>h)
 exact⟨Ar h.lt k.size,(kc _).trans h.c0,(kc _).trans h.c1,(kc _).trans h.c2,(kc _).trans h.c3,(kc _).trans h.d0,(kc _).trans h.d1,(kc _).trans h.d2,(kc _).trans h.d3⟩
theorem akg(w:World)(hT:ik w):Calls prog 6 #[] w fun e w'=>e=.returned (.bool true)/\aa af w w':=by
 have F:=ab (aaV QB BF w (by decide) (by decide) hT);clear hT;go_enter func6,ntmps6;go_wp2_with fail;refine(F.out).mono ?_;rintro e w1 ⟨k1,h⟩;rw[akd,akf,ake]at h;rcases h with⟨h,_⟩|⟨_,v,l,rfl,hE,hl⟩
 ·exact absurd rfl h
 obtain⟨x,y,rfl⟩:=aoq hl;obtain⟨g,c,rfl,yx,qw,hc,kQ⟩:=hE.get (by simp);obtain⟨b1,b4,b5,b6⟩:=akc;have g0:=kQ 0 (by simp);have g1:=kQ 1 (by simp);simp only[Ai,Ag,b1,b4,b5,b6,acw.1,acw.2]at g0 g1;obtain⟨c0,c1,c2,c3⟩:=g0;obtain⟨d0,d1,d2,d3⟩:=g1;have G0:=ab (hE.fE _ (List.mem_cons_self)).2;have G1:=ab (hE.fE _ (List.mem_cons_of_mem _ (List.mem_cons_self))).2;have K1:=ab k1;have N8:Hid (Oo w1 g x y):=⟨qw,c0,c1,c2,c3,d0,d1,d2,d3⟩;clear hE hl b1 b4 b5 b6 F k1 kQ d0 d1 d2 d3 c0 c1 c3 yx qw;simp only[Ax,Bb,Ba,Nat.reduceAdd,Nat.reduceMul]at*;have KA:Hid (aa af w1 (w1.alloc (.cells #[.int .i64 1,.int .i64 2] 3))):=(aa.refl af w1).alloc _;have F1:=ab (aej (ca:=2) (cb:=2) (n:=2) (xs:=[1,2]) (ys:=[1,2]) (G0.out.kept KA.out (fun h=>h)) (aq.new w1 #[.int .i64 1,.int .i64 2] 3) rfl rfl (by decide));go_wp2_with fail;refine(F1.out).mono ?_;rintro e w2 ⟨rfl,k2⟩;have K2:Hid (aa af w1 w2):=KA.out.trans k2;clear KA F1 k2 c2;have c2:=(N8.out.kept K2.out).d2;have KB:Hid (aa af w2 (w2.alloc (.cells #[.int .i64 5,.int .i64 6] 3))):=(aa.refl af w2).alloc _;have F1:=ab (aej (ca:=2) (cb:=2) (n:=2) (xs:=[5,6]) (ys:=[5,6]) (G1.out.kept (K2.out.trans KB.out) (fun h=>h)) (aq.new w2 #[.int .i64 5,.int .i64 6] 3) rfl rfl (by decide));go_wp2_with fail;refine(F1.out).mono ?_;rintro e w3 ⟨rfl,k3⟩;have K3:Hid (aa af w1 w3):=K2.out.trans (KB.out.trans k3);clear KB F1 k3 c2;obtain⟨_,c0,c1,c2,c3,d0,d1,d2,d3⟩:=N8.out.kept K3.out;go_wp2_with fail;go_ret;exact⟨rfl,K1.out.trans K3.out⟩
open Go.ChangeShapes Go.WideShapes Go.ChangeAt
theorem ahL:Lib.firstData=Rows.laid_unicode_utf8_first:=by kernel_rfl
theorem afK:(Lib.acceptData:DataW Unit)=Rows.laid_unicode_utf8_acceptRanges:=by kernel_rfl
theorem an6(hL:laidMetH prog Rows.cutsUptoRow.laid W):ik W:=by
 have hM:laidMet prog Rows.cutsUptoRow.laid W:=by
  rw[<-MakeChecks.laidMetH_plain _ _ _ (by kernel_rfl)];exact hL
 have h3:=Lib.laidMet.reads hM (n:= "unicode/utf8.first") (d:=Rows.laid_unicode_utf8_first) (.tail _ (.tail _ (.head _)));have h4:=Lib.laidMet.reads hM (n:= "unicode/utf8.acceptRanges") (d:=Rows.laid_unicode_utf8_acceptRanges) (.head _);rw[<-ahL]at h3;rw[<-afK]at h4;exact utf8Tabs_of_reads (ρ:=Tryz.acD) {Tryz.VT with} ⟨by kernel_rfl,by kernel_rfl,by kernel_rfl,by kernel_rfl,by kernel_rfl,by kernel_rfl,by kernel_rfl⟩ h3 h4
theorem au:ownKnob prog.godebug=none:=by kernel_rfl
theorem ae6(c n:Int)(hc:0<=c)(hn:0<n):0<=Int.tmod c n/\Int.tmod c n<n:=by
 rw[Int.tmod_eq_emod_of_nonneg hc];exact⟨Int.emod_nonneg _ (by omega),Int.emod_lt_of_pos _ hn⟩
def If(w:World)(v:Value)(zs:List Int):Prop:=(v=.slice none 0 0/\zs=[])\/∃(a:Addr) (c:Nat),v=.slice (some a) zs.length c/\zs.length<=c/\(∀i,i<zs.length->w.cell? (a.add i)=some (.int .i64 (zs.getD i 0)))/\∀z∈zs,-9223372036854775808<=z/\z<=9223372036854775807
theorem If.kept{zs:List Int}(h:If w v zs)(k:aa af w w'):If w' v zs:=by
 rcases h with h|⟨a,c,h1,hc,h3,h4⟩
 ·exact Or.inl h
 ·exact Or.inr ⟨a,c,h1,hc,fun i hi=>(k.cell (p:=a.add i) (Bh _ _ (h3 i hi)) (fun h=>h)).trans (h3 i hi),h4⟩
theorem amH{P:Program}{f:Func}{s:ChangeSpec}{apart fresh handsOn again:Bool}{W':World}{args:Array Value}{ds gs:List (DataW H)}{before pa pv:List MemPlace}
 (hW:DataW.Whole oU P f.params.toList s.vars apart W args.toList ds gs before)
 (mj:∀(b:Nat) (sp:Nat->Bool) (hd:Bool),DataW.TrodAll oU P W' b sp hd f.resultTypes.toList (v.resultList f.resultTypes.size) (s.fn H (ds++gs)).results [])
 (Ut:∀sp:Nat->Bool,(∀p∈before,sp p.block=true)->DataW.TrodAll oU P W' 0 sp true f.params.toList args.toList (s.fn H (ds++gs)).args pa)
 (ab7:∀sp:Nat->Bool,(∀p∈before,sp p.block=true)->DataW.TrodVars oU P W' sp s.vars (s.fn H (ds++gs)).vars pv)
 (mh:before=pa++pv)(hk:aa af W W')
 (df:∀(j:Nat) (t:TypeId) (r:Value),f.resultTypes[j]? =some t->(v.resultList f.resultTypes.size)[j]? =some r->Value.okWide P W' .any 0 t r):
 s.post oU P f apart fresh handsOn again W args v W':=by
 have aw:=hW.lt;have hold:∀p∈before,(fun b=>decide (b<W.heap.size)) p.block=true:=fun p hp=>by simpa using aw p hp
 refine⟨ds,gs,before,[],pa,pv,hW,mj _ _ _,Ut _ hold,ab7 _ hold,World.keptBut_mono (fun p hp=>⟨hp,?_⟩) ((hk.below (Ab _) (fun _ _ h=>h)).frame _),fun _=>?_⟩
 ·rw[mh,Ap]at hp;exact Or.inr hp
 ·obtain⟨_,_,_,_,_,hz,hn⟩:=hW;refine⟨df,_,_,([]++pa)++pv,⟨[]++pa,pv,trodAll_append (Ut _ (fun _ _=>rfl)) (mj _ _ _),ab7 _ (fun _ _=>rfl),rfl,?_,?_⟩,?_⟩
  ·intro b off hp;have wZ:MemPlace.cell b off∈before:=by rw[mh];simpa using hp
   rw[hk.frozen (p:=⟨b,off,none⟩) (aw _ wZ) (fun h=>h)];exact hz b off wZ
  ·intro ha;have:=hn ha;rw[mh]at this;simpa using this
  ·intro p hp _;rw[mh];simpa using hp
theorem Z6:∀l:List Int,(lits (H:=H) .i64 l).length<=Rows.uptoBulkAll (lits (H:=H) .i64 l)
 | []=>Ab _
 |x::l=>by
  have:=Z6 l;show(lits (H:=H) .i64 l).length+1<=1+Rows.uptoBulkAll (lits (H:=H) .i64 l)
  omega
theorem Tryz.aai:prog.cellsOf 3=1:=by kernel_rfl
theorem alx{d:DataW H}{p:List MemPlace}(hv:Value.okWide prog W .any base 22 v)(h:DataW.Trod oU prog W 0 (fun _=>true) true 22 v d p):
 ∃zs,If W v zs/\zs.length<=Rows.uptoBulk d/\∀W',aa af W W'->∀sp:Nat->Bool,(∀q∈p,sp q.block=true)->DataW.Trod oU prog W' 0 sp true 22 v d p:=by
 obtain⟨a0,GI,aah,rfl⟩:=okWide_slice underlying22 hv;obtain⟨fuel,hf⟩:=h;rcases open_ints underlying22 underlying3 Tryz.aai hf with⟨iD,hx⟩|⟨a,len,cap,zs,iD,hb,hl,hm,hz,hx,pH,Qt⟩
 ·simp[Value.cells]at iD
  obtain⟨rfl,rfl,rfl⟩:=iD;simp only[Ck]at hx;obtain⟨rfl,rfl⟩:=hx;exact⟨[],Or.inl ⟨rfl,rfl⟩,Am _,fun W' _ sp _=>shut_slice_nil underlying22⟩
 ·simp[Value.cells]at iD
  obtain⟨rfl,rfl,rfl⟩:=iD;simp only[Ck]at hx;obtain⟨rfl,rfl⟩:=hx;simp only[if_true]at hz;have cT:(zs.take GI).length=GI:=by rw[D4];omega
  refine⟨zs.take GI,Or.inr ⟨a,aah,by rw[cT],by rw[cT];exact hl,fun i hi=>?_,fun z hz'=>?_⟩,?_,fun W' k sp Vq=>?_⟩
  ·rw[cT]at hi;rw[pH i (by omega)];simp[Af,hi]
  ·have:=Qt z (C0 hz');simpa[Lit.wf,IntKind.min,IntKind.max,IntKind.signed,IntKind.bits]using this
  ·have h1:=Z6 (H:=H) (zs.take GI);have h2:(lits (H:=H) .i64 (zs.take GI)).length=(zs.take GI).length:=by unfold lits;rw[Co]
   simp only[Rows.uptoBulk];omega
  ·refine⟨2,?_⟩
   have aS:zs.length=(if sp a.block then aah else GI):=by
    by_cases h0:zs.length=0
    ·rw[h0];split<;>omega
    ·have:sp a.block=true:=Vq (.cell a.block (a.off+0)) (by unfold MemPlace.row;exact Bf.2 ⟨0,En.2 (by omega),rfl⟩);rw[this];simpa using hz
   exact shut_ints 0 underlying22 underlying3 Tryz.aai (Am _) hl hm aS (fun i hi=>(k.cell (p:=a.add i) (Bh _ _ (pH i hi)) (fun h=>h)).trans (pH i hi)) Qt
open Go.Shelf Go.Lib
def Tryz.VV:Go.Shelf.Ren:=⟨fun|32=>103|33=>128|49=>127|50=>160|n=>n,fun|0=>0|3=>3|4=>4|5=>5|21=>21|25=>197|30=>42|33=>176|66=>193|68=>195|69=>196|n=>n,fun|2=>0|3=>1|n=>n⟩
theorem Tryz.VU:Go.Proofs.Lays7.n33 prog Tryz.VV:={
 mixed:=by kernel_rfl
 f32:=func103.trans (congrArg some (by kernel_rfl))
 f33:=func128.trans (congrArg some (by kernel_rfl))
 f49:=func127.trans (congrArg some (by kernel_rfl))
 f50:=func160.trans (congrArg some (by kernel_rfl))
 t0:=underlying0
 a0:=isAgg0
 z0:=sizeOf0
 v0:=zeroValue0
 i0:=by kernel_rfl
 t3:=underlying3
 a3:=isAgg3
 z3:=sizeOf3
 v3:=zeroValue3
 i3:=by kernel_rfl
 t4:=underlying4
 a4:=isAgg4
 z4:=sizeOf4
 v4:=zeroValue4
 i4:=by kernel_rfl
 t5:=underlying5
 a5:=isAgg5
 z5:=sizeOf5
 v5:=zeroValue5
 i5:=by kernel_rfl
 t21:=underlying21
 a21:=isAgg21
 z21:=sizeOf21
 v21:=zeroValue21
 i21:=by kernel_rfl
 t25:=underlying197
 a25:=isAgg197
 z25:=sizeOf197
 v25:=zeroValue197
 i25:=by kernel_rfl
 t30:=underlying42
 a30:=isAgg42
 z30:=sizeOf42
 v30:=zeroValue42
 i30:=by kernel_rfl
 t33:=underlying176
 a33:=isAgg176
 z33:=sizeOf176
 v33:=zeroValue176
 i33:=by kernel_rfl
 t66:=underlying193
 a66:=isAgg193
 z66:=sizeOf193
 t68:=underlying195
 a68:=isAgg195
 z68:=sizeOf195
 v68:=zeroValue195
 i68:=by kernel_rfl
 t69:=underlying196
 a69:=isAgg196
 z69:=sizeOf196
 v69:=zeroValue196
 i69:=by kernel_rfl
 g2:=by kernel_rfl
 g3:=by kernel_rfl}
def Tryz.Xc:Go.Shelf.Ren:=⟨fun|4=>106|n=>n,fun|4=>4|22=>42|5=>5|n=>n,fun|n=>n⟩
theorem Tryz.aeF:Go.Proofs.SlLaysK.n4 prog Tryz.Xc:={
 mixed:=by kernel_rfl
 f4:=func106.trans (congrArg some (by kernel_rfl))
 t4:=underlying4
 a4:=isAgg4
 z4:=sizeOf4
 v4:=zeroValue4
 t22:=underlying42
 a22:=isAgg42
 z22:=sizeOf42
 v22:=zeroValue42
 t5:=underlying5
 i5:=by kernel_rfl}
def jL(w:World)(v:Value)(s:ByteArray):Prop:=(v=.slice none 0 0/\s.size=0)\/∃b off cap,v=.slice (some ⟨b,off,none⟩) s.size cap/\s.size<=cap/\∀j,j<s.size->w.cell? ⟨b,off+j,none⟩=some (.int .u8 (s.get! j).toNat)
theorem jL.kept{K:Nat->Prop}(h:jL w v s)(k:aa K w w')(hK:∀i,v.ownBlock=some i->¬K i):jL w' v s:=by
 rcases h with h|⟨b,off,cap,rfl,h1,h2⟩
 ·exact Or.inl h
 ·exact Or.inr ⟨b,off,cap,rfl,h1,fun j hj=>(k.cell (Bh _ _ (h2 j hj)) (hK b rfl)).trans (h2 j hj)⟩
theorem jL.new(h:jL w v s)(k:aa af w w'):jL w' v s:=h.kept k (fun _ _ h=>h)
theorem aat(h:jL w v s)(hT:ik w):Calls prog 103 #[v] w fun e w'=>e=.returned (.tuple #[.int .i32 (Lib.decodeGo s).1,.int .i64 (Lib.decodeGo s).2])/\aa af w w':=by
 rcases h with⟨rfl,h0⟩|⟨b,off,cap,rfl,h1,h2⟩
 ·refine(Any7.utf8_DecodeRune_nil (ρ:=Tryz.VV) {Tryz.VU with} w).mono ?_;rintro e w' ⟨h1,rfl⟩;refine⟨?_,aa.refl _ _⟩;rw[h1];unfold Lib.decodeGo;rw[if_pos h0];rfl
 ·refine(Any7.utf8_DecodeRune (ρ:=Tryz.VV) {Tryz.VU with} s b off cap w hT h2).mono ?_;rintro e w' ⟨h1,h2⟩;exact⟨h1,BE h2⟩
theorem ahf(h:jL w v s)(h0:0<s.size)(hs:s.size<=9223372036854775807)(hT:ik w):Calls prog 128 #[v] w fun e w'=>e=.returned (.tuple #[.int .i32 (Lib.decodeLastL s.data.toList).1,.int .i64 (Lib.decodeLastL s.data.toList).2])/\aa af w w':=by
 rcases h with⟨rfl,h1⟩|⟨b,off,cap,rfl,h1,h2⟩
 ·omega
 ·refine(Any7.utf8_DecodeLastRune Tryz.VU s b off cap w h1 h2 hs hT).mono ?_;rintro e w' ⟨h1,h2⟩;exact⟨h1,BE h2⟩
def jQ(s:ByteArray):List Value:=s.data.toList.map fun c=>.int .u8 (c.toNat:Int)
theorem To(s:ByteArray):(jQ s).length=s.size:=by unfold jQ;simp
theorem Z7(s:ByteArray)(h:j<s.size):(jQ s)[j]? =some (.int .u8 ((s.get! j).toNat:Int)):=by
 unfold jQ;have:j<s.data.toList.length:=by simpa using h
 rw[Bv,Ae this];rw[Utf8W.get!_of_lt s j h];simp;rfl
theorem Tc(b off q:Nat):(Addr.mk b off none).add q=⟨b,off+q,none⟩:=by
 unfold Addr.add;by_cases h:q=0
 ·rw[if_pos h,h];rfl
 ·rw[if_neg h]
theorem agS(h:jL w v s)(hs:s.size<=140737488355328):Calls prog 106 #[v] w fun e w'=>∃v',e=.returned v'/\w'.ownsRow w.heap.size 5 1 v' s.size (jQ s)/\aa af w w':=by
 rcases h with⟨rfl,h1⟩|⟨b,off,cap,rfl,h1,h2⟩
 ·refine(Any.bytes_Clone_nil (ρ:=Tryz.Xc) Tryz.aeF 0 0 w).mono ?_;rintro e w' ⟨h2,rfl⟩;refine⟨_,h2,⟨by rw[To,Nat.mul_one],Or.inl ⟨rfl,h1⟩⟩,aa.refl _ _⟩
 ·refine(Any.bytes_Clone_at (ρ:=Tryz.Xc) Tryz.aeF ⟨b,off,none⟩ s.size cap (s.data.toList.map fun c=>(c.toNat:Int)) w (by simp) hs (fun i hi=>?_)).mono ?_
  ·have:=h2 i hi
   have e:(s.data.toList.map fun c=>(c.toNat:Int)).getD i 0=((s.get! i).toNat:Int):=by
    have hl:i<s.data.toList.length:=(by simpa using hi);rw[List.getD,Bv,Ae hl,Utf8W.get!_of_lt s i hi];simp;rfl
   rw[e,Tc];exact this
  ·rintro e w' ⟨v',h3,h4,h5,h6⟩;refine⟨v',h3,?_,BE h6⟩;have e:(s.data.toList.map fun c=>(c.toNat:Int)).map (Value.int .u8)=jQ s:=by unfold jQ;simp
   rw[e]at h4;exact h4
theorem aa1(hg:eR ms)(ah bh:Int):∀(d e u:Nat) (st:Int) (f:FS),u<d->u<e->u<ms.length->gx ms ah bh d u st f=gx ms ah bh e u st f
 |0,e,u,st,f,h,_,_=>absurd h (by omega)
 |d+1,0,u,st,f,_,h,_=>absurd h (by omega)
 |d+1,e+1,u,st,f,hd,he,hu=>by
  unfold gx;simp only[Ay];rw[Ae hu];have hm:ms[u]? =some ms[u]:=Ae hu;generalize ms[u]=m at hm⊢;obtain⟨⟨k0,k4⟩,g1,g2,g3⟩:=hg u m hm;dsimp only
  have T:∀v:Int,0<=v->v<u->∀f,gx ms ah bh d v st f=gx ms ah bh e v st f:=fun v h0 hv f=>by
   obtain⟨k,rfl⟩:=Au h0;exact aa1 hg ah bh d e k st f (by omega) (by omega) (by omega)
  congr 1
  by_cases e0:m.kind=0
  ·rw[if_pos e0,if_pos e0]
  ·rw[if_neg e0,if_neg e0];by_cases e1:m.kind=1
   ·rw[if_pos e1,if_pos e1]
   ·rw[if_neg e1,if_neg e1];have hn:=g2 (by omega);by_cases e2:m.kind=2
    ·rw[if_pos e2,if_pos e2,T _ hn.1 hn.2]
    ·rw[if_neg e2,if_neg e2];by_cases e3:m.kind=3
     ·rw[if_pos e3,if_pos e3,T _ hn.1 hn.2]
     ·rw[if_neg e3,if_neg e3];have ho:=g3 (by omega);rw[T _ hn.1 hn.2,T _ ho.1 ho.2]
def fK(ms:List MS)(ah bh:Int)(u:Int)(st:Int)(f:FS):FS×Bool:=gx ms ah bh ms.length u st f
def FS.mark(f:FS)(u:Nat):FS:=⟨f.seen.set u true,f.dF,f.next⟩
theorem ah1(hu:u<ms.length)(hs:f.seen.getD u true=true):fK ms ah bh u st f=(f,false):=by
 unfold fK;obtain⟨d,hd⟩:∃d,ms.length=d+1:=⟨ms.length-1,by omega⟩
 rw[hd];unfold gx;rw[Ay,if_pos hs]
theorem ah2(hg:eR ms)(hm:ms[u]? =some m)(hs:f.seen.getD u true=false):
 (m.kind=0->fK ms ah bh u st f=(f.mark u,true))/\(m.kind=1->fK ms ah bh u st f=(mT m bh st (f.mark u),false))/\
 (m.kind=2->fK ms ah bh u st f=if eU m.eo ah bh then fK ms ah bh m.next st (f.mark u)else(f.mark u,false))/\
 (m.kind=3->fK ms ah bh u st f=fK ms ah bh m.next st (f.mark u))/\
 (m.kind=4->fK ms ah bh u st f=if(fK ms ah bh m.next st (f.mark u)).2 then fK ms ah bh m.next st (f.mark u)else fK ms ah bh m.a_ st (fK ms ah bh m.next st (f.mark u)).1):=by
 have hu:=(Ah.1 hm).1;obtain⟨⟨k0,k4⟩,g1,g2,g3⟩:=hg u m hm;obtain⟨d,hd⟩:∃d,ms.length=d+1:=⟨ms.length-1,by omega⟩
 have T:∀v:Int,0<=v->v<u->∀f,gx ms ah bh d v st f=fK ms ah bh v st f:=fun v h0 hv f=>by
  obtain⟨k,rfl⟩:=Au h0;exact aa1 hg ah bh d ms.length k st f (by omega) (by omega) (by omega)
 have E:fK ms ah bh u st f=gx ms ah bh (d+1) u st f:=by unfold fK;rw[hd]
 rw[E];unfold gx;rw[Ay,hs,hm];simp only[Aq,if_false];refine⟨fun e=>by rw[if_pos e];rfl,fun e=>by rw[if_neg (by omega),if_pos e];rfl,fun e=>?_,fun e=>?_,fun e=>?_⟩
 ·have hn:=g2 (by omega);rw[if_neg (by omega),if_neg (by omega),if_pos e,T _ hn.1 hn.2];rfl
 ·have hn:=g2 (by omega);rw[if_neg (by omega),if_neg (by omega),if_neg (by omega),if_pos e,T _ hn.1 hn.2];rfl
 ·have hn:=g2 (by omega);have ho:=g3 e;rw[if_neg (by omega),if_neg (by omega),if_neg (by omega),if_neg (by omega),T _ hn.1 hn.2,T _ ho.1 ho.2];rfl
def pB(n:Nat)(f:FS):Prop:=f.next.length+f.dF.countP (fun b=>!b)<=n
theorem countP_set{l:List Bool}{k:Nat}(h:l[k]? =some false):(l.set k true).countP (fun b=>!b)+1=l.countP (fun b=>!b):=by
 induction l generalizing k with
 |nil=>simp at h
 |cons a t ih=>
  cases k with
  |zero=>
   simp only[E6,A9]at h;subst h;simp[D6]
  |succ k=>
   simp only[D3]at h;simp only[Ac,D6];have:=ih h;omega
theorem ae1(h:pB n f):pB n (mT m bh st f):=by
 unfold mT;split
 ·rename_i hc
  simp only[Cm,Cb]at hc;unfold pB at*
  have hb:f.dF[m.next.toNat]? =some false:=by
   have:=hc.2;rw[Af]at this
   cases hx:f.dF[m.next.toNat]? with
   |none=>rw[hx]at this;cases this
   |some v=>rw[hx]at this;simp at this;rw[this]
  have:=countP_set hb;simp only[Aj,Ax,Bb];omega
 ·exact h
theorem an9(h:DE n f):DE n (mT m bh st f):=by
 unfold mT;split
 ·exact⟨h.1,by simp only[Bk];exact h.2⟩
 ·exact h
structure DD(ms:List MS)(ah j0 bh sD:Int):Prop where
 take:∀(u:Nat) (m:MS),ms[u]? =some m->m.kind=1->fP m.sp m.fo m.nt bh=fP m.sp m.fo m.nt sD
 eo:∀(u:Nat) (m:MS),ms[u]? =some m->m.kind=2->eU m.eo ah bh=eU m.eo j0 sD
def gV(φ:Int->Int)(l:List bF):List bF:=l.map fun t=>(t.1,φ t.2)
def FS.gV(φ:Int->Int)(f:FS):FS:=⟨f.seen,f.dF,Go.Proofs.YtpdnofhackjfdaaGreatDoor.gV φ f.next⟩
theorem aaZ(h:DD ms ah j0 bh sD)(φ:Int->Int):∀(d:Nat) (u st:Int) (f:FS),gx ms j0 sD d u (φ st) (f.gV φ)=((gx ms ah bh d u st f).1.gV φ,(gx ms ah bh d u st f).2)
 |0,u,st,f=>rfl
 |d+1,u,st,f=>by
  unfold gx;have IH:=fun u st f=>aaZ h φ d u st f
  by_cases h1:f.seen.getD u.toNat true=true
  ·rw[if_pos (show(f.gV φ).seen.getD u.toNat true=true from h1),if_pos h1]
  ·rw[if_neg (show¬(f.gV φ).seen.getD u.toNat true=true from h1),if_neg h1]
   cases hm:ms[u.toNat]? with
   |none=>rfl
   |some m=>
    dsimp only;have R:(⟨(f.gV φ).seen.set u.toNat true,(f.gV φ).dF,(f.gV φ).next⟩:FS)=FS.gV φ ⟨f.seen.set u.toNat true,f.dF,f.next⟩:=rfl;rw[R];by_cases e0:m.kind=0
    ·rw[if_pos e0,if_pos e0]
    ·rw[if_neg e0,if_neg e0];by_cases e1:m.kind=1
     ·rw[if_pos e1,if_pos e1];unfold mT;rw[<-h.take _ m hm e1];by_cases hc:(fP m.sp m.fo m.nt bh&& !f.dF.getD m.next.toNat true)=true
      ·rw[if_pos (show(fP m.sp m.fo m.nt bh&& !(FS.gV φ ⟨f.seen.set u.toNat true,f.dF,f.next⟩).dF.getD m.next.toNat true)=true from hc),if_pos (show(fP m.sp m.fo m.nt bh&& !(⟨f.seen.set u.toNat true,f.dF,f.next⟩:FS).dF.getD m.next.toNat true)=true from hc)];simp[FS.gV,gV]
      ·rw[if_neg (show¬(fP m.sp m.fo m.nt bh&& !(FS.gV φ ⟨f.seen.set u.toNat true,f.dF,f.next⟩).dF.getD m.next.toNat true)=true from hc),if_neg (show¬(fP m.sp m.fo m.nt bh&& !(⟨f.seen.set u.toNat true,f.dF,f.next⟩:FS).dF.getD m.next.toNat true)=true from hc)]
     ·rw[if_neg e1,if_neg e1];by_cases e2:m.kind=2
      ·rw[if_pos e2,if_pos e2,<-h.eo _ m hm e2];by_cases hh:eU m.eo ah bh=true
       ·rw[if_pos hh,if_pos hh];exact IH _ _ _
       ·rw[if_neg hh,if_neg hh]
      ·rw[if_neg e2,if_neg e2];by_cases e3:m.kind=3
       ·rw[if_pos e3,if_pos e3];exact IH _ _ _
       ·rw[if_neg e3,if_neg e3,IH];by_cases hr:(gx ms ah bh d m.next st ⟨f.seen.set u.toNat true,f.dF,f.next⟩).2=true
        ·rw[if_pos hr,if_pos hr]
        ·rw[if_neg hr,if_neg hr];exact IH _ _ _
theorem aeO(h:DD ms ah j0 bh sD)(φ:Int->Int):∀(l:List bF) (f:FS),iW ms j0 sD (gV φ l) (f.gV φ)=((iW ms ah bh l f).1.gV φ,(iW ms ah bh l f).2.map φ)
 | [],f=>rfl
 |t::ts,f=>by
  show iW ms j0 sD ((t.1,φ t.2)::gV φ ts) (f.gV φ)=_
  unfold iW;rw[aaZ h φ];by_cases hr:(gx ms ah bh ms.length t.1 t.2 f).2=true
  ·rw[if_pos hr,if_pos hr];rfl
  ·rw[if_neg hr,if_neg hr];exact aeO h φ ts _
theorem Xh(h:DD ms ah j0 bh sD)(φ:Int->Int)(l:List bF):aZ ms j0 sD (gV φ l)=(gV φ (aZ ms ah bh l).1,(aZ ms ah bh l).2.map φ):=by
 have:=aeO h φ l (FS.new ms.length);have e:(FS.new ms.length).gV φ=FS.new ms.length:=rfl;rw[e]at this;unfold aZ;rw[this];rfl
end Go.Proofs.YtpdnofhackjfdaaGreatDoor
