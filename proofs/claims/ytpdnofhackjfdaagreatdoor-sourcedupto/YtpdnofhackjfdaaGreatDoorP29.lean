/- Package trawl's  -/
import Derived.Test.YtpdnofhackjfdaaGreatDoorP28
set_option linter.all false
set_option maxRecDepth 100000
set_option maxHeartbeats 8000000
namespace Go.Proofs.YtpdnofhackjfdaaGreatDoor
open Go.Proofs.Tryz
open Go.RowKit Go.Maps
variable {s:ByteArray} {f:FS} {ah kj bh sU st:Int} {l:List (Ev×Nat)} {xs ys:List Int} {ms:List MS} {m:MS} {B base g i j n u:Nat} {K:Nat->Prop} {v:Value} {W w w':World}
theorem o_.ma{lo hi:Nat}(h:o_ w lo hi base v ms)(aB:ms≠ [])(hle:hi<=w.heap.size)(hT:iM w):∃mb c vs,v=.slice (some (GB mb 0)) ms.length c/\jj w lo hi mb c vs ms:=by
 obtain⟨vs,h1,h2,h3⟩:=h;obtain⟨hx,h_⟩:=h1;rcases h_ with⟨_,h0⟩|⟨g,cap,aO,rfl,a1,a2,a3,a4,a5,a6⟩
 ·exact absurd (Aw.1 h0) aB
 ·refine⟨g,cap,vs,rfl,⟨⟨h2,fun i hi' j hj=>?_,(Am.1 a2).1,fun i b1 b2=>⟨(h3 i b1 b2).k,(h3 i b1 b2).nx,(h3 i b1 b2).ot⟩⟩,h3,hle,hT⟩⟩;have hf:=QF vs i (by omega) j hj;rw[<-hf,<-a6,Av (by omega)];simp only[World.cell?,a2];simp
def lV(p s:ByteArray):List Ev:=Mq (IJ (lM p) (gM p) (iA s)) (aJ s).length 0 none
theorem abB(p s:ByteArray)(w:World)(hp:p.size<=maxLen)(hs:s.size<=10000000)(hT:iM w):Calls prog 7 #[.string p,.string s] w fun e w'=>aa ai w w'/\((jH p≠0/\e=.returned (.tuple #[.slice none 0 0,GW (jH p)]))\/(jH p=0/\∃(v:Value) (l:List (Ev×Nat)),e=.returned (.tuple #[v,GW 0])/\rH w' w.heap.size v s (2*gM p) l/\l.map (·.1)=lV p s)):=by
 have HT:=ab hT;clear hT;by_cases hl:300<p.size
 ·have e1:jH p=1:=if_pos hl;have F:=ab (aeM p w hl hp);have HE:=ab e1;clear e1;go_in;go_wp2_with fail;refine(F.o).mono ?_;rintro e w1 ⟨rfl,k1⟩;have K1:=ab k1;clear k1 F;simp only[pM,gC];go_wp2_with fail;go_ret2;refine⟨?_,Or.inl ⟨by rw[HE.o];decide,by rw[HE.o];rfl⟩⟩;exact K1.o.alloc _
 ·have tm:p.size<=300:=by omega
  have F:=ab (aeN p w tm);go_in;go_wp2_with fail;refine(F.o).mono ?_;rintro e w1 ⟨g,q,x,y,st,kH,oI,rfl,k1,bD,dB⟩;obtain⟨a1,a2,a3⟩:=afW kH oI;rw[a1]at bD dB;rw[a2,a3]at dB;have Hx:(pick (kX g p)).1=jH p:=by unfold jH;rw[if_neg hl,a3]
  have Ny:(pick (kX (pO p) p)).1=jH p:=by unfold jH;rw[if_neg hl]
  rw[Hx];rw[Ny]at dB;clear Hx Ny a1 a2 a3 kH oI;generalize(pick (kX g p)).2=pl;have K1:=ab k1;clear k1 F;by_cases he:jH p=0
  ·obtain⟨hx,hy,wt,xM,xR⟩:=dB he;obtain⟨c1,c2,c3,c4⟩:=aeE tm he;have hG:x=(gM p:Int):=by rw[hx,bD];rfl
   have VB:gM p<=100000:=by
    have h1:=wt.aT;have h2:=(wt.next);have h3:=wt.len;have h4:st.aT=gM p:=by rw[bD];rfl
    simp only at h1 h2;omega
   have G5:(lM p).sz<=1000:=by have:=xM.size_eq;rw[show lM p=pk (pO p) (dI p)from rfl,this];exact c2
   subst hG;have HE:=ab he;have Pz:Hid (cJ w1 w.heap.size w1.heap.size q (eJ (pO p) (dI p)).2 (lM p)):=xM;rw[he];have cZ:=K1.o.size;clear hx hy wt xM xR dB bD he c2;simp only[pM,gC];have B2:Hid (au (w1.alloc (.cells #[GW q.k,.slice q.pa q.pn q.pc,.slice q.sa q.sn q.sc,GW q.ed,GW q.gr,GW q.lo,GW q.hi,.bool q.lz,GW (gM p:Int),.map y] 67)) w1.heap.size #[GW q.k,.slice q.pa q.pn q.pc,.slice q.sa q.sn q.sc,GW q.ed,GW q.gr,GW q.lo,GW q.hi,.bool q.lz,GW (gM p:Int),.map y] 67):=au.new w1 _ _;have oO:Hid (aa ai w1 (w1.alloc (.cells #[GW q.k,.slice q.pa q.pn q.pc,.slice q.sa q.sn q.sc,GW q.ed,GW q.gr,GW q.lo,GW q.hi,.bool q.lz,GW (gM p:Int),.map y] 67))):=(aa.refl ai w1).alloc _;go_wp2_with fail;have F:=aak (Pz.o.kept oO.o (fun _ _ _ hx=>hx) (Ab _)) oO.o.size c1 G5 (gM p:Int) y;simp only[pM,gC]at F;have F:=ab F;refine(F.o).mono ?_;rintro e w3 ⟨v',V,j,rfl,k3,fD,Hn,dc⟩;have Ud:Hid (aa ai w w3):=(K1.o.trans oO.o).trans k3;have ri:=k3.size;have gg:=oO.o.size;obtain⟨u0,CZ,kI⟩:=fD.start;have Ns:=fD.XV.1;have gX:(sorted (fy (lM p)).1 V).length=V.aP.length:=(by simp[sorted]);obtain⟨mb,c,vs,H7,JQ⟩:=Hn.ma (by intro e;have:=congrArg List.length e;rw[gX]at this;have h0:V.aP.length=0:=this;omega) (by omega) (HT.o.iR Ud.o);subst H7;have hAQ:iJ (gM p:Int) (sorted (fy (lM p)).1 V):=aft (Mc c3 c4);have F2:=agb (s:=s) (u0:=u0) (G2:=gM p) (T:=IJ (lM p) (gM p) (iA s)) JQ (fD.fJ (Mc c3 c4)) hAQ (by rw[gX];omega) hs (by rw[gX];exact kI) VB (fun i hi=>fD.iI c1 G5 c3 (iA s) CZ hi _) (apA c3 s);rw[CZ];have F2:=ab F2;generalize(sorted (fy (lM p)).1 V).length=nn at*;clear Hn JQ fD hAQ gX Ns CZ kI dc k3 F;go_wp2_with fail;refine(F2.o).mono ?_;rintro e w4 ⟨v,l,rfl,hE,Hk,k4⟩
   have aA:Hid (aa ai w w4/\rH w4 w.heap.size v s (2*gM p) l/\l.map (·.1)=lV p s):=by
    have qi:=Ud.o.size;exact⟨Ud.o.trans k4,⟨ye hE.row qi,fun r hr=>⟨by have:=(hE.fA r hr).1;omega,(hE.fA r hr).2⟩⟩,Hk⟩
   clear hE Hk k4 F2;go_wp2_with fail;go_ret2;exact⟨aA.o.1,Or.inr ⟨HE.o,v,l,rfl,aA.o.2.1,aA.o.2.2⟩⟩
  ·obtain⟨pe,qD⟩:∃pe,Hid (jH p=pe):=⟨_,(rfl:_=_)⟩
   rw[qD.o]at he⊢;have aB:(pe !=0)=true:=(by simpa using he);have HE:=ab he;simp only[pM,gC];clear dB he;go_wp2_with fail;go_ret2;exact⟨K1.o.alloc _,Or.inl ⟨by rw[qD.o];exact HE.o,by rw[qD.o];rfl⟩⟩
theorem RP(h:au w g (cQ xs).toArray 3):∀i,i<xs.length->w.cell? (GB g i)=some (GW (xs.getD i 0)):=fun i hi=>by
 have:=h.cell i;rw[this];simp[cQ,hi]
theorem afK(h:xs.take j=ys.take j)(h1:j<xs.length)(h2:j<ys.length)(e:xs.getD j 0=ys.getD j 0):xs.take (j+1)=ys.take (j+1):=by
 simp only[Af,Ae h1,Ae h2,De]at e;rw[D0,D0,h,Ae h1,Ae h2,e]
theorem ae5{ga gb ca cb:Nat}(ha:au w ga (cQ xs).toArray 3)(hb:au w gb (cQ ys).toArray 3)(hx:xs.length=n)(hy:ys.length=n)(hn:n<=1000000):
 Calls prog 20 #[.slice (some (GB ga 0)) n ca,.slice (some (GB gb 0)) n cb] w fun e w'=>e=.returned (.bool (decide (xs=ys)))/\aa ai w w':=by
 have HA:=ab ha;have HB:=ab hb;have HX:=ab hx;have HY:=ab hy;clear ha hb hx hy;go_enter func20,ntmps20;go_wp2_with fail;go_loopg [5] n (fun kk i wr=>∃j:Nat,i=GW j/\j<=n/\kk=n-j/\Hid (xs.take j=ys.take j)/\Hid (aa ai w wr))
 case atStart=>exact⟨0,rfl,Al _,rfl,rfl,aa.refl _ _⟩
 case round=>
  obtain⟨j,rfl,hj,rfl,HT,K⟩:=hrel;by_cases az:j<n
  ·have d1:wr.cell? (GB ga j)=some (GW (xs.getD j 0)):=RP (HA.o.kept K.o (fun h=>h)) j (by rw[HX.o];exact az);have d2:wr.cell? (GB gb j)=some (GW (ys.getD j 0)):=RP (HB.o.kept K.o (fun h=>h)) j (by rw[HY.o];exact az);obtain⟨x,E_⟩:∃x,Hid (xs.getD j 0=x):=⟨_,(rfl:_=_)⟩
   obtain⟨y,FA⟩:∃y,Hid (ys.getD j 0=y):=⟨_,(rfl:_=_)⟩
   rw[E_.o]at d1;rw[FA.o]at d2;by_cases e:x=y
   ·subst e;go_wp2_with fail;go_big_quiet (fail);go_wp2_with fail;go_roundg (n-(j+1))
    case measure=>omega
    case rel=>exact⟨j+1,by simp,by omega,rfl,afK HT.o (by rw[HX.o];exact az) (by rw[HY.o];exact az) (E_.o.trans FA.o.symm),K.o.drewN _⟩
   ·have aB:(x !=y)=true:=(by simpa using e);have HE:=ab e;clear e;go_wp2_with fail;go_big_quiet (fail);go_wp2_with fail;go_ret;exact⟨by rw[Bg];(try rfl);rintro rfl;exact HE.o (E_.o.symm.trans FA.o),K.o.drewN _⟩
  ·have mD:j=n:=(by omega);subst mD;go_wp2_with fail;go_ret;have h1:=HT.o;rw[Bz (by rw[HX.o];exact Ab _),Bz (by rw[HY.o];exact Ab _)]at h1;exact⟨by rw[C2 h1]<;>rfl,K.o⟩
def RV:ByteArray:=⟨#[40,97,124,120,41,98,42]⟩
def DJ:ByteArray:=⟨#[99,97,98,98,45,120]⟩
theorem ak7:jH RV=0:=by kernel_rfl
theorem ak9:gM RV=1:=by kernel_rfl
theorem ak8:lV RV DJ=[⟨1,4,[1,2]⟩,⟨5,6,[5,6]⟩]:=by kernel_rfl
theorem ak6:bd DJ 1=1/\bd DJ 4=4/\bd DJ 5=5/\bd DJ 6=6:=by refine⟨?_,?_,?_,?_⟩<;>kernel_rfl
theorem ada:DJ.extract 1 4=⟨#[97,98,98]⟩/\DJ.extract 5 6=⟨#[120]⟩:=by refine⟨?_,?_⟩<;>kernel_rfl
theorem abv(s:ByteArray)(N2:Nat):∀(l:List (Ev×Nat)) (i:Nat) (h:i<l.length) (j:Nat) (hj:j<4),(ug s N2 l)[i*4+j]? =(vM s N2 l[i].1 l[i].2)[j]?
 | [],i,h,_,_=>by simp at h
 |p::l,0,h,j,hj=>by
  show(vM s N2 p.1 p.2++ug s N2 l)[0*4+j]? =_
  rw[Ay (by show _<4;omega),show 0*4+j=j by omega];rfl
 |p::l,i+1,h,j,hj=>by
  show(vM s N2 p.1 p.2++ug s N2 l)[(i+1)*4+j]? =_
  rw[Br (by show 4<=_;omega),show(i+1)*4+j-(vM s N2 p.1 p.2).length=i*4+j by show(i+1)*4+j-4=_;omega];exact abv s N2 l i (by simpa using h) j hj
theorem rH.get{N2:Nat}(h:rH w base v s N2 l)(aB:l≠ []):∃g c,v=.slice (some (GB g 0)) l.length c/\base<=g/\g<w.heap.size/\l.length<=c/\∀i,(hi:i<l.length)->w.cell? ⟨g,i*4,none⟩=some (GW (bd s l[i].1.a:Int))/\w.cell? ⟨g,i*4+1,none⟩=some (GW (bd s l[i].1.b:Int))/\w.cell? ⟨g,i*4+2,none⟩=some (.slice (some ⟨l[i].2,0,none⟩) N2 N2)/\w.cell? ⟨g,i*4+3,none⟩=some (.string (s.extract (bd s l[i].1.a) (bd s l[i].1.b))):=by
 obtain⟨hx,h1⟩:=h.row;rcases h1 with⟨_,h0⟩|⟨g,cap,aO,rfl,a1,a2,a3,a4,a5,a6⟩
 ·exact absurd (Aw.1 h0) aB
 ·refine⟨g,cap,rfl,a1,(Am.1 a2).1,(by omega),fun i hi=>?_⟩
  have key:∀j,j<4->w.cell? ⟨g,i*4+j,none⟩=(vM s N2 l[i].1 l[i].2)[j]? :=fun j hj=>by
   rw[<-abv s N2 l i hi j hj,<-a6,Av (by omega)];simp only[World.cell?,a2];simp
  exact⟨key 0 (by omega),key 1 (by omega),key 2 (by omega),key 3 (by omega)⟩
theorem apB{a b:Ev}(h:l.map (·.1)=[a,b]):∃x y,l=[(a,x),(b,y)]:=by
 match l,h with
 | [(p,x),(q,y)],h=>simp at h;obtain⟨rfl,rfl⟩:=h;exact⟨x,y,rfl⟩
structure PI(w:World)(g x y:Nat):Prop where
 lt:g<w.heap.size
 c0:w.cell? (GB g 0)=some (GW 1)
 c1:w.cell? (GB g 1)=some (GW 4)
 c2:w.cell? (GB g 2)=some (.slice (some (GB x 0)) 2 2)
 c3:w.cell? (GB g 3)=some (.string ⟨#[97,98,98]⟩)
 d0:w.cell? (GB g 4)=some (GW 5)
 d1:w.cell? (GB g 5)=some (GW 6)
 d2:w.cell? (GB g 6)=some (.slice (some (GB y 0)) 2 2)
 d3:w.cell? (GB g 7)=some (.string ⟨#[120]⟩)
theorem PI.kept{x y:Nat}(h:PI w g x y)(k:aa ai w w'):PI w' g x y:=by
 have kc:∀i,w'.cell? (GB g i)=w.cell? (GB g i):=fun i=>k.cell (p:=(GB g i)) h.lt (fun h=>h)
 exact⟨Ar h.lt k.size,(kc _).trans h.c0,(kc _).trans h.c1,(kc _).trans h.c2,(kc _).trans h.c3,(kc _).trans h.d0,(kc _).trans h.d1,(kc _).trans h.d2,(kc _).trans h.d3⟩
theorem ak_(w:World)(hT:iM w):Calls prog 6 #[] w fun e w'=>e=.returned (.bool true)/\aa ai w w':=by
 have F:=ab (abB RV DJ w (by decide) (by decide) hT);clear hT;go_enter func6,ntmps6;go_wp2_with fail;refine(F.o).mono ?_;rintro e w1 ⟨k1,h⟩;rw[ak7,ak9,ak8]at h;rcases h with⟨h,_⟩|⟨_,v,l,rfl,hE,hl⟩
 ·exact absurd rfl h
 obtain⟨x,y,rfl⟩:=apB hl;obtain⟨g,c,rfl,zg,qS,hc,lg⟩:=hE.get (by simp);obtain⟨b1,b4,b5,b6⟩:=ak6;have g0:=lg 0 (by simp);have g1:=lg 1 (by simp);simp only[Ah,Ag,b1,b4,b5,b6,ada.1,ada.2]at g0 g1;obtain⟨c0,c1,c2,c3⟩:=g0;obtain⟨d0,d1,d2,d3⟩:=g1;have G0:=ab (hE.fA _ (List.mem_cons_self)).2;have G1:=ab (hE.fA _ (List.mem_cons_of_mem _ (List.mem_cons_self))).2;have K1:=ab k1;have N8:Hid (PI w1 g x y):=⟨qS,c0,c1,c2,c3,d0,d1,d2,d3⟩;clear hE hl b1 b4 b5 b6 F k1 lg d0 d1 d2 d3 c0 c1 c3 zg qS;simp only[Ax,Bf,Ba,Nat.reduceAdd,Nat.reduceMul]at*;have KA:Hid (aa ai w1 (w1.alloc (.cells #[GW 1,GW 2] 3))):=(aa.refl ai w1).alloc _;have F1:=ab (ae5 (ca:=2) (cb:=2) (n:=2) (xs:=[1,2]) (ys:=[1,2]) (G0.o.kept KA.o (fun h=>h)) (au.new w1 #[GW 1,GW 2] 3) rfl rfl (by decide));go_wp2_with fail;refine(F1.o).mono ?_;rintro e w2 ⟨rfl,k2⟩;have K2:Hid (aa ai w1 w2):=KA.o.trans k2;clear KA F1 k2 c2;have c2:=(N8.o.kept K2.o).d2;have KB:Hid (aa ai w2 (w2.alloc (.cells #[GW 5,GW 6] 3))):=(aa.refl ai w2).alloc _;have F1:=ab (ae5 (ca:=2) (cb:=2) (n:=2) (xs:=[5,6]) (ys:=[5,6]) (G1.o.kept (K2.o.trans KB.o) (fun h=>h)) (au.new w2 #[GW 5,GW 6] 3) rfl rfl (by decide));go_wp2_with fail;refine(F1.o).mono ?_;rintro e w3 ⟨rfl,k3⟩;have K3:Hid (aa ai w1 w3):=K2.o.trans (KB.o.trans k3);clear KB F1 k3 c2;obtain⟨_,c0,c1,c2,c3,d0,d1,d2,d3⟩:=N8.o.kept K3.o;go_wp2_with fail;go_ret;exact⟨rfl,K1.o.trans K3.o⟩
open Go.ChangeShapes Go.WideShapes Go.ChangeAt
theorem aiB:Lib.firstData=Rows.laid_unicode_utf8_first:=by kernel_rfl
theorem agu:(Lib.acceptData:DataW Unit)=Rows.laid_unicode_utf8_acceptRanges:=by kernel_rfl
theorem aph(hL:laidMetH prog Rows.cutsUptoRow.laid W):iM W:=by
 have hM:laidMet prog Rows.cutsUptoRow.laid W:=by
  rw[<-MakeChecks.laidMetH_plain _ _ _ (by kernel_rfl)];exact hL
 have h3:=Lib.laidMet.reads hM (n:= "unicode/utf8.first") (d:=Rows.laid_unicode_utf8_first) (.tail _ (.tail _ (.head _)));have h4:=Lib.laidMet.reads hM (n:= "unicode/utf8.acceptRanges") (d:=Rows.laid_unicode_utf8_acceptRanges) (.head _);rw[<-aiB]at h3;rw[<-agu]at h4;exact utf8Tabs_of_reads (ρ:=Tryz.adj) {Tryz.Xu with} ⟨by kernel_rfl,by kernel_rfl,by kernel_rfl,by kernel_rfl,by kernel_rfl,by kernel_rfl,by kernel_rfl⟩ h3 h4
theorem ay:ownKnob prog.godebug=none:=by kernel_rfl
theorem afP(c n:Int)(hc:0<=c)(hn:0<n):0<=Int.tmod c n/\Int.tmod c n<n:=by
 rw[Int.tmod_eq_emod_of_nonneg hc];exact⟨Int.emod_nonneg _ (by omega),Int.emod_lt_of_pos _ hn⟩
theorem anF{H:Type}{enc:TypeId×Value->H}{P:Program}{f:Func}{s:ChangeSpec}{apart fresh handsOn again:Bool}{W':World}{args:Array Value}{ds gs:List (DataW H)}{before pa pv:List MemPlace}
 (hW:DataW.Whole enc P f.params.toList s.vars apart W args.toList ds gs before)
 (mH:∀(b:Nat) (sp:Nat->Bool) (hd:Bool),DataW.TrodAll enc P W' b sp hd f.resultTypes.toList (v.resultList f.resultTypes.size) (s.fn H (ds++gs)).results [])
 (VT:∀sp:Nat->Bool,(∀p∈before,sp p.block=true)->DataW.TrodAll enc P W' 0 sp true f.params.toList args.toList (s.fn H (ds++gs)).args pa)
 (acO:∀sp:Nat->Bool,(∀p∈before,sp p.block=true)->DataW.TrodVars enc P W' sp s.vars (s.fn H (ds++gs)).vars pv)
 (oI:before=pa++pv)(hk:aa ai W W')
 (dB:∀(j:Nat) (t:TypeId) (r:Value),f.resultTypes[j]? =some t->(v.resultList f.resultTypes.size)[j]? =some r->Value.okWide P W' .any 0 t r):
 s.post enc P f apart fresh handsOn again W args v W':=by
 have az:=hW.lt;have hold:∀p∈before,(fun b=>decide (b<W.heap.size)) p.block=true:=fun p hp=>by simpa using az p hp
 refine⟨ds,gs,before,[],pa,pv,hW,mH _ _ _,VT _ hold,acO _ hold,World.keptBut_mono (fun p hp=>⟨hp,?_⟩) ((hk.below (Ab _) (fun _ _ h=>h)).frame _),fun _=>?_⟩
 ·rw[oI,Ap]at hp;exact Or.inr hp
 ·obtain⟨_,_,_,_,_,hz,hn⟩:=hW;refine⟨dB,_,_,([]++pa)++pv,⟨[]++pa,pv,trodAll_append (VT _ (fun _ _=>rfl)) (mH _ _ _),acO _ (fun _ _=>rfl),rfl,?_,?_⟩,?_⟩
  ·intro b off hp;have xL:MemPlace.cell b off∈before:=by rw[oI];simpa using hp
   rw[hk.frozen (p:=(GB b off)) (az _ xL) (fun h=>h)];exact hz b off xL
  ·intro ha;have:=hn ha;rw[oI]at this;simpa using this
  ·intro p hp _;rw[oI];simpa using hp
structure Pc where
 d:ByteArray
 k:Int
 c:Int
def Pc.cells(p:Pc):List Value:=[.string p.d,GW p.k,GW p.c]
def sF(l:List Pc):List Value:=l.flatMap Pc.cells
def pN:Pc:=⟨⟨#[]⟩,1,0⟩
theorem aeG:∀(l:List Pc) (i:Nat) (h:i<l.length) (j:Nat) (hj:j<3),(sF l)[i*3+j]? =(l[i].cells)[j]?
 | [],i,h,_,_=>by simp at h
 |p::l,0,h,j,hj=>by
  show(p.cells++sF l)[0*3+j]? =_
  rw[Eo,Ba,Ay (by show j<3;exact hj)];rfl
 |p::l,i+1,h,j,hj=>by
  show(p.cells++sF l)[(i+1)*3+j]? =_
  rw[Br (by show 3<=_;omega),show(i+1)*3+j-p.cells.length=i*3+j by show(i+1)*3+j-3=_;omega];exact aeG l i (by simpa using h) j hj
def pf(w:World)(B:Nat)(v:Value)(l:List Pc):Prop:=w.ownsRow B 51 3 v l.length (sF l)
theorem pf.kept{l:List Pc}(h:pf w B v l)(k:aa K w w')(hK:∀b,v.ownBlock=some b->¬K b):pf w' B v l:=bU h k hK
theorem pf.get{l:List Pc}(h:pf w B v l)(hi:i<l.length):∃g cap,v=.slice (some (GB g 0)) l.length cap/\g<w.heap.size/\w.cell? ⟨g,i*3,none⟩=some (.string l[i].d)/\w.cell? ⟨g,i*3+1,none⟩=some (GW l[i].k)/\w.cell? ⟨g,i*3+2,none⟩=some (GW l[i].c):=by
 rcases h.2 with⟨h1,h2⟩|⟨g,cap,aO,h1,a1,a2,a3,a4,a5,a6⟩
 ·omega
 ·subst h1;have hc:=h.cells (g:=g) rfl
  have key:∀j,j<3->∀u,(l[i].cells)[j]? =some u->w.cell? ⟨g,i*3+j,none⟩=some u:=fun j hj u hu=>by
   have:=hc (i*3+j) u (by rw[aeG l i hi j hj];exact hu);rwa[show(Addr.mk g 0 none).add (i*3+j)=⟨g,i*3+j,none⟩ by unfold Addr.add;split<;>simp_all]at this
  exact⟨g,cap,rfl,(dw h (b:=g) rfl).2,key 0 (by omega) _ rfl,key 1 (by omega) _ rfl,key 2 (by omega) _ rfl⟩
theorem pf.al_{l:List Pc}(h:pf w B v l){b:Nat}{cs:Array Value}{t:TypeId}(hb:au w b cs t)(ht:t≠51):v.ownBlock≠some b:=fun e=>by
 rcases h.2 with⟨h1,_⟩|⟨g,cap,aO,h1,a1,a2,r⟩
 ·subst h1;simp[Value.ownBlock]at e
 ·subst h1;simp[Value.ownBlock]at e;subst e;unfold au at hb;rw[a2]at hb;simp at hb;exact ht hb.2.symm
def Uj(rb g n cap i:Nat)(d:ByteArray)(k c:Int)(w:World):Prop:=(w.cell? (GB rb 0)=some (.slice (some (GB g 0)) n cap)/\w.cell? (GB rb 1)=some (GW ((i:Int)+1)))/\w.cell? ⟨g,i*3,none⟩=some (.string d)/\w.cell? ⟨g,i*3+1,none⟩=some (GW k)/\w.cell? ⟨g,i*3+2,none⟩=some (GW c)
theorem apx{rb:Nat}{pv:Value}{l:List Pc}(hb:au w rb #[pv,GW (i:Int)] 87)(hP:pf w B pv l)(hi:i<=l.length)(hl:l.length<=100000000):
 Calls prog 53 #[BT rb 0] w fun e w'=>e=.returned (.agg #[.string (l.getD i pN).d,GW (l.getD i pN).k,GW (l.getD i pN).c])/\au w' rb #[pv,GW ((min (i+1) l.length:Nat):Int)] 87/\aa (fun j=>j=rb) w w':=by
 have zu:=hb.lt;have K0:aa ai w (w.alloc (.cells #[.string ⟨#[]⟩,GW 0,GW 0] 51)):=(aa.refl ai w).alloc _;have N0:=au.new w #[.string ⟨#[]⟩,GW 0,GW 0] 51;have B0:=hb.kept K0 (fun hx=>hx);obtain⟨pa,pc,NC⟩:=cw hP;subst NC;have b0:(w.alloc (.cells #[.string ⟨#[]⟩,GW 0,GW 0] 51)).cell? (GB rb 0)=some (.slice pa l.length pc):=B0.cell 0;have b1:(w.alloc (.cells #[.string ⟨#[]⟩,GW 0,GW 0] 51)).cell? (GB rb 1)=some (GW (i:Int)):=B0.cell 1;have HB:=ab B0;have HN:=ab N0;have HK:=ab K0;have HP:=ab hP;have dM:∀g,(Value.slice pa l.length pc).ownBlock=some g->g≠rb:=fun g hg e=>hP.al_ hb (by decide) (by rw[<-e];exact hg)
 clear K0 N0 B0 hP hb;go_in;go_wp2_with fail;generalize(w.alloc (.cells #[.string ⟨#[]⟩,GW 0,GW 0] 51))=W at*;go_big_quiet (fail);have gF:Hid (au (W.drewN nq) rb #[.slice pa l.length pc,GW (i:Int)] 87):=HB.o;have mu:Hid (au (W.drewN nq) w.heap.size #[.string ⟨#[]⟩,GW 0,GW 0] 51):=HN.o;have qB:=ab (HK.o.drewN nq);clear HB HN HK b0 b1;generalize W.drewN nq=W1 at*;by_cases az:i<l.length
 ·obtain⟨g,cap,hv,hg,c0,c1,c2⟩:=HP.o.get az;simp only[A9,true_and]at hv;obtain⟨rfl,rfl⟩:=hv;have dM:=dM g rfl;have GD:=ab (show l.getD i pN=l[i] by simp[Af,Ae az]);have gW:¬((l.length:Int)<=(i:Int)):=by omega
  have e0:=(qB.o.cell (p:=⟨g,i*3,none⟩) hg (fun h=>h)).trans c0;have e1:=(qB.o.cell (p:=⟨g,i*3+1,none⟩) hg (fun h=>h)).trans c1;have e2:=(qB.o.cell (p:=⟨g,i*3+2,none⟩) hg (fun h=>h)).trans c2;have b1:W1.cell? (GB rb 1)=some (GW (i:Int)):=gF.o.cell 1;have f1:W1.frozen? (GB rb 1)=false:=gF.o.frozen 1;have cZ:=qB.o.size;clear c0 c1 c2;generalize l[i]=q at*;obtain⟨d,k,c⟩:=q;simp only at e0 e1 e2;have iK:=ab (gF.o.setCell 1 (GW ((i:Int)+1)));have Ls:=ab (mu.o.qw (p:=(GB rb 1)) (show w.heap.size≠rb by omega) (GW ((i:Int)+1)));have lu:=ab ((qB.o.mono (S':=fun j=>j=rb) (fun _ h=>h.elim)).setCell (p:=(GB rb 1)) (Or.inl rfl) (GW ((i:Int)+1)))
  have HS:Hid (Uj rb g l.length pc i d k c (W1.setCell (GB rb 1) (GW ((i:Int)+1)))):=by
   have gV:∀o,(W1.setCell (GB rb 1) (GW ((i:Int)+1))).cell? (GB g o)=W1.cell? (GB g o):=(fun o=>((aa.refl (fun j=>j=rb) W1).setCell (p:=(GB rb 1)) (Or.inl rfl) _).cell (p:=(GB g o)) (show g<W1.heap.size by omega) dM);exact⟨⟨iK.o.cell 0,iK.o.cell 1⟩,(gV _).trans e0,(gV _).trans e1,(gV _).trans e2⟩
  go_wp2_with fail
  clear gF mu qB e0 e1 e2 b1 f1;generalize(W1.setCell (GB rb 1) (GW ((i:Int)+1)))=W2 at*;refine gD (S:=Uj rb g l.length pc i d k c) 11 (by kernel_rfl) rfl rfl rfl (by kernel_rfl) (by kernel_rfl) ?_;have ak:Uj rb g l.length pc i d k c W2.drew:=HS.o;refine aj 0 21 (BT rb 0) ak ?_;refine aj 1 22 (BT rb 0) ak ?_;refine aj 2 23 (BT rb 0) ak ?_;refine aj 3 24 (.slice (some (GB g 0)) l.length pc) ak ?_;refine aj 4 25 (BT rb 0) ak ?_;refine aj 5 26 (BT rb 0) ak ?_;refine aj 6 27 (BT rb 1) ak ?_;refine aj 7 28 (GW ((i:Int)+1)) ak ?_;refine mP 8 29 (GW (i:Int)) rfl rfl (by kernel_rfl) (by kernel_rfl) (by kernel_rfl) (fun _ _ _ h=>h) (Or.inl ⟨by rfl,fun W _=>by go_simp<;>(rw[Cr];omega)⟩) ak ?_;refine aj 9 30 (.pointer (some ⟨g,i*3,none⟩)) ak ?_;refine aj 10 31 (.agg #[.string d,GW k,GW c]) ak ?_;refine At (by kernel_rfl) ?_ _;simp only[Act.put,Aa,Ad,Ac];unfold eo;simp only[Ak,Ag,Ah];have EP:Hid (au W2.drew w.heap.size #[.string ⟨#[]⟩,GW 0,GW 0] 51):=Ls.o;have sJ:Hid (au W2.drew rb #[.slice (some (GB g 0)) l.length pc,GW ((i:Int)+1)] 87):=iK.o;have iL:=ab lu.o.drew;clear Ls iK lu ak HS;generalize W2.drew=W3 at*;have f0:W3.frozen? (GB w.heap.size 0)=false:=EP.o.frozen 0;have f1:W3.frozen? (GB w.heap.size 1)=false:=EP.o.frozen 1;have f2:W3.frozen? (GB w.heap.size 2)=false:=EP.o.frozen 2;have d0:W3.cell? (GB w.heap.size 0)=some (.string ⟨#[]⟩):=EP.o.cell 0;have d1:W3.cell? (GB w.heap.size 1)=some (GW 0):=EP.o.cell 1;have d2:W3.cell? (GB w.heap.size 2)=some (GW 0):=EP.o.cell 2;have Z:=((EP.o.setCell 0 (.string d)).setCell 1 (GW k)).setCell 2 (GW c);have r0:(((W3.setCell (GB w.heap.size 0) (.string d)).setCell (GB w.heap.size 1) (GW k)).setCell (GB w.heap.size 2) (GW c)).cell? (GB w.heap.size 0)=some (.string d):=Z.cell 0;have r1:(((W3.setCell (GB w.heap.size 0) (.string d)).setCell (GB w.heap.size 1) (GW k)).setCell (GB w.heap.size 2) (GW c)).cell? (GB w.heap.size 1)=some (GW k):=Z.cell 1;have r2:(((W3.setCell (GB w.heap.size 0) (.string d)).setCell (GB w.heap.size 1) (GW k)).setCell (GB w.heap.size 2) (GW c)).cell? (GB w.heap.size 2)=some (GW c):=Z.cell 2
  have aA:Hid (au (((W3.setCell (GB w.heap.size 0) (.string d)).setCell (GB w.heap.size 1) (GW k)).setCell (GB w.heap.size 2) (GW c)) rb #[.slice (some (GB g 0)) l.length pc,GW ((i:Int)+1)] 87/\aa (fun j=>j=rb) w (((W3.setCell (GB w.heap.size 0) (.string d)).setCell (GB w.heap.size 1) (GW k)).setCell (GB w.heap.size 2) (GW c))):=
   ⟨((sJ.o.qw (p:=(GB w.heap.size 0)) (show rb≠w.heap.size by omega) _).qw (p:=(GB w.heap.size 1)) (show rb≠w.heap.size by omega) _).qw (p:=(GB w.heap.size 2)) (show rb≠w.heap.size by omega) _,((iL.o.setCell (p:=(GB w.heap.size 0)) (Or.inr (Ab _)) _).setCell (p:=(GB w.heap.size 1)) (Or.inr (Ab _)) _).setCell (p:=(GB w.heap.size 2)) (Or.inr (Ab _)) _⟩
  clear Z;go_simp;go_wp2_with fail;generalize(((W3.setCell (GB w.heap.size 0) (.string d)).setCell (GB w.heap.size 1) (GW k)).setCell (GB w.heap.size 2) (GW c))=W4 at*;refine Bm (v:=.agg #[.string d,GW k,GW c]) (by simp[results,results53,go_sem,r0,r1,r2]) rfl ⟨by rw[GD.o],by rw[show min (i+1) l.length=i+1 by omega];exact aA.o.1,aA.o.2⟩
 ·have GD:=ab (show l.getD i pN=pN by simp[Af,Cg (show l.length<=i by omega)]);have GM:=ab (show min (i+1) l.length=i by omega);have gW:(l.length:Int)<=(i:Int):=by omega
  have f0:W1.frozen? (GB w.heap.size 0)=false:=mu.o.frozen 0;have f1:W1.frozen? (GB w.heap.size 1)=false:=mu.o.frozen 1;have f2:W1.frozen? (GB w.heap.size 2)=false:=mu.o.frozen 2;have d0:W1.cell? (GB w.heap.size 0)=some (.string ⟨#[]⟩):=mu.o.cell 0;have d1:W1.cell? (GB w.heap.size 1)=some (GW 0):=mu.o.cell 1;have d2:W1.cell? (GB w.heap.size 2)=some (GW 0):=mu.o.cell 2;have Z:=((mu.o.setCell 0 (.string ⟨#[]⟩)).setCell 1 (GW 1)).setCell 2 (GW 0);have r0:(((W1.setCell (GB w.heap.size 0) (.string ⟨#[]⟩)).setCell (GB w.heap.size 1) (GW 1)).setCell (GB w.heap.size 2) (GW 0)).cell? (GB w.heap.size 0)=some (.string ⟨#[]⟩):=Z.cell 0;have r1:(((W1.setCell (GB w.heap.size 0) (.string ⟨#[]⟩)).setCell (GB w.heap.size 1) (GW 1)).setCell (GB w.heap.size 2) (GW 0)).cell? (GB w.heap.size 1)=some (GW 1):=Z.cell 1;have r2:(((W1.setCell (GB w.heap.size 0) (.string ⟨#[]⟩)).setCell (GB w.heap.size 1) (GW 1)).setCell (GB w.heap.size 2) (GW 0)).cell? (GB w.heap.size 2)=some (GW 0):=Z.cell 2
  have aA:Hid (au (((W1.setCell (GB w.heap.size 0) (.string ⟨#[]⟩)).setCell (GB w.heap.size 1) (GW 1)).setCell (GB w.heap.size 2) (GW 0)) rb #[.slice pa l.length pc,GW (i:Int)] 87/\aa ai w (((W1.setCell (GB w.heap.size 0) (.string ⟨#[]⟩)).setCell (GB w.heap.size 1) (GW 1)).setCell (GB w.heap.size 2) (GW 0))):=
   ⟨((gF.o.qw (p:=(GB w.heap.size 0)) (show rb≠w.heap.size by omega) _).qw (p:=(GB w.heap.size 1)) (show rb≠w.heap.size by omega) _).qw (p:=(GB w.heap.size 2)) (show rb≠w.heap.size by omega) _,((qB.o.setCell (p:=(GB w.heap.size 0)) (Or.inr (Ab _)) _).setCell (p:=(GB w.heap.size 1)) (Or.inr (Ab _)) _).setCell (p:=(GB w.heap.size 2)) (Or.inr (Ab _)) _⟩
  clear Z;go_wp2_with fail;generalize(((W1.setCell (GB w.heap.size 0) (.string ⟨#[]⟩)).setCell (GB w.heap.size 1) (GW 1)).setCell (GB w.heap.size 2) (GW 0))=W2 at*;refine Bm (v:=.agg #[.string ⟨#[]⟩,GW 1,GW 0]) (by simp[results,results53,go_sem,r0,r1,r2]) rfl ⟨by rw[GD.o];rfl,by rw[GM.o];exact aA.o.1,aA.o.2.mono (fun _ h=>h.elim)⟩
open Go.Shelf Go.Lib
def Tryz.Xw:Go.Shelf.Ren:=⟨fun|32=>103|33=>128|49=>127|50=>160|n=>n,fun|0=>0|3=>3|4=>4|5=>5|21=>21|25=>197|30=>42|33=>176|66=>193|68=>195|69=>196|n=>n,fun|2=>0|3=>1|n=>n⟩
theorem Tryz.Xv:Go.Proofs.Lays7.n33 prog Tryz.Xw:={
 mixed:=by kernel_rfl
 f32:=func103.trans (congrArg some (by kernel_rfl))
 f33:=func128.trans (congrArg some (by kernel_rfl))
 f49:=func127.trans (congrArg some (by kernel_rfl))
 f50:=func160.trans (congrArg some (by kernel_rfl))
 t0:=underlying0
 a0:=isAgg0
 z0:=sizeOf0
 v0:=zeroValue0
 i0:=by kernel_rfl
 t3:=underlying3
 a3:=isAgg3
 z3:=sizeOf3
 v3:=zeroValue3
 i3:=by kernel_rfl
 t4:=underlying4
 a4:=isAgg4
 z4:=sizeOf4
 v4:=zeroValue4
 i4:=by kernel_rfl
 t5:=underlying5
 a5:=isAgg5
 z5:=sizeOf5
 v5:=zeroValue5
 i5:=by kernel_rfl
 t21:=underlying21
 a21:=isAgg21
 z21:=sizeOf21
 v21:=zeroValue21
 i21:=by kernel_rfl
 t25:=underlying197
 a25:=isAgg197
 z25:=sizeOf197
 v25:=zeroValue197
 i25:=by kernel_rfl
 t30:=underlying42
 a30:=isAgg42
 z30:=sizeOf42
 v30:=zeroValue42
 i30:=by kernel_rfl
 t33:=underlying176
 a33:=isAgg176
 z33:=sizeOf176
 v33:=zeroValue176
 i33:=by kernel_rfl
 t66:=underlying193
 a66:=isAgg193
 z66:=sizeOf193
 t68:=underlying195
 a68:=isAgg195
 z68:=sizeOf195
 v68:=zeroValue195
 i68:=by kernel_rfl
 t69:=underlying196
 a69:=isAgg196
 z69:=sizeOf196
 v69:=zeroValue196
 i69:=by kernel_rfl
 g2:=by kernel_rfl
 g3:=by kernel_rfl}
def Tryz.Yz:Go.Shelf.Ren:=⟨fun|4=>106|n=>n,fun|4=>4|22=>42|5=>5|n=>n,fun|n=>n⟩
theorem Tryz.afq:Go.Proofs.SlLaysK.n4 prog Tryz.Yz:={
 mixed:=by kernel_rfl
 f4:=func106.trans (congrArg some (by kernel_rfl))
 t4:=underlying4
 a4:=isAgg4
 z4:=sizeOf4
 v4:=zeroValue4
 t22:=underlying42
 a22:=isAgg42
 z22:=sizeOf42
 v22:=zeroValue42
 t5:=underlying5
 i5:=by kernel_rfl}
def jI(w:World)(v:Value)(s:ByteArray):Prop:=(v=.slice none 0 0/\s.size=0)\/∃b off cap,v=.slice (some (GB b off)) s.size cap/\s.size<=cap/\∀j,j<s.size->w.cell? ⟨b,off+j,none⟩=some (.int .u8 (s.get! j).toNat)
theorem jI.kept(h:jI w v s)(k:aa K w w')(hK:∀i,v.ownBlock=some i->¬K i):jI w' v s:=by
 rcases h with h|⟨b,off,cap,rfl,h1,h2⟩
 ·exact Or.inl h
 ·exact Or.inr ⟨b,off,cap,rfl,h1,fun j hj=>(k.cell (Bk _ _ (h2 j hj)) (hK b rfl)).trans (h2 j hj)⟩
theorem jI.new(h:jI w v s)(k:aa ai w w'):jI w' v s:=h.kept k (fun _ _ h=>h)
theorem aa8(h:jI w v s)(hT:iM w):Calls prog 103 #[v] w fun e w'=>e=.returned (.tuple #[.int .i32 (Lib.decodeGo s).1,GW (Lib.decodeGo s).2])/\aa ai w w':=by
 rcases h with⟨rfl,h0⟩|⟨b,off,cap,rfl,h1,h2⟩
 ·refine(Any7.utf8_DecodeRune_nil (ρ:=Tryz.Xw) {Tryz.Xv with} w).mono ?_;rintro e w' ⟨h1,rfl⟩;refine⟨?_,aa.refl _ _⟩;rw[h1];unfold Lib.decodeGo;rw[if_pos h0];rfl
 ·refine(Any7.utf8_DecodeRune (ρ:=Tryz.Xw) {Tryz.Xv with} s b off cap w hT h2).mono ?_;rintro e w' ⟨h1,h2⟩;exact⟨h1,DI h2⟩
theorem ah6(h:jI w v s)(h0:0<s.size)(hs:s.size<=9223372036854775807)(hT:iM w):Calls prog 128 #[v] w fun e w'=>e=.returned (.tuple #[.int .i32 (Lib.decodeLastL s.data.toList).1,GW (Lib.decodeLastL s.data.toList).2])/\aa ai w w':=by
 rcases h with⟨rfl,h1⟩|⟨b,off,cap,rfl,h1,h2⟩
 ·omega
 ·refine(Any7.utf8_DecodeLastRune Tryz.Xv s b off cap w h1 h2 hs hT).mono ?_;rintro e w' ⟨h1,h2⟩;exact⟨h1,DI h2⟩
def jY(s:ByteArray):List Value:=s.data.toList.map fun c=>.int .u8 (c.toNat:Int)
theorem UL(s:ByteArray):(jY s).length=s.size:=by unfold jY;simp
theorem aaP(s:ByteArray)(h:j<s.size):(jY s)[j]? =some (.int .u8 ((s.get! j).toNat:Int)):=by
 unfold jY;have:j<s.data.toList.length:=by simpa using h
 rw[Cb,Ae this];rw[Utf8W.get!_of_lt s j h];simp;rfl
theorem Jc(b off q:Nat):(Addr.mk b off none).add q=⟨b,off+q,none⟩:=by
 unfold Addr.add;by_cases h:q=0
 ·rw[if_pos h,h];rfl
 ·rw[if_neg h]
theorem ahG(h:jI w v s)(hs:s.size<=140737488355328):Calls prog 106 #[v] w fun e w'=>∃v',e=.returned v'/\w'.ownsRow w.heap.size 5 1 v' s.size (jY s)/\aa ai w w':=by
 rcases h with⟨rfl,h1⟩|⟨b,off,cap,rfl,h1,h2⟩
 ·refine(Any.bytes_Clone_nil (ρ:=Tryz.Yz) Tryz.afq 0 0 w).mono ?_;rintro e w' ⟨h2,rfl⟩;refine⟨_,h2,⟨by rw[UL,Fg],Or.inl ⟨rfl,h1⟩⟩,aa.refl _ _⟩
 ·refine(Any.bytes_Clone_at (ρ:=Tryz.Yz) Tryz.afq (GB b off) s.size cap (s.data.toList.map fun c=>(c.toNat:Int)) w (by simp) hs (fun i hi=>?_)).mono ?_
  ·have:=h2 i hi
   have e:(s.data.toList.map fun c=>(c.toNat:Int)).getD i 0=((s.get! i).toNat:Int):=by
    have hl:i<s.data.toList.length:=(by simpa using hi);rw[List.getD,Cb,Ae hl,Utf8W.get!_of_lt s i hi];simp;rfl
   rw[e,Jc];exact this
  ·rintro e w' ⟨v',h3,h4,h5,h6⟩;refine⟨v',h3,?_,DI h6⟩;have e:(s.data.toList.map fun c=>(c.toNat:Int)).map (Value.int .u8)=jY s:=by unfold jY;simp
   rw[e]at h4;exact h4
theorem abH(hg:fg ms)(ah bh:Int):∀(d e u:Nat) (st:Int) (f:FS),u<d->u<e->u<ms.length->gH ms ah bh d u st f=gH ms ah bh e u st f
 |0,e,u,st,f,h,_,_=>absurd h (by omega)
 |d+1,0,u,st,f,_,h,_=>absurd h (by omega)
 |d+1,e+1,u,st,f,hd,he,hu=>by
  unfold gH;simp only[Az];rw[Ae hu];have hm:ms[u]? =some ms[u]:=Ae hu;generalize ms[u]=m at hm⊢;obtain⟨⟨k0,k4⟩,g1,g2,g3⟩:=hg u m hm;dsimp only
  have T:∀v:Int,0<=v->v<u->∀f,gH ms ah bh d v st f=gH ms ah bh e v st f:=fun v h0 hv f=>by
   obtain⟨k,rfl⟩:=Au h0;exact abH hg ah bh d e k st f (by omega) (by omega) (by omega)
  congr 1
  by_cases e0:m.kind=0
  ·rw[if_pos e0,if_pos e0]
  ·rw[if_neg e0,if_neg e0];by_cases e1:m.kind=1
   ·rw[if_pos e1,if_pos e1]
   ·rw[if_neg e1,if_neg e1];have hn:=g2 (by omega);by_cases e2:m.kind=2
    ·rw[if_pos e2,if_pos e2,T _ hn.1 hn.2]
    ·rw[if_neg e2,if_neg e2];by_cases e3:m.kind=3
     ·rw[if_pos e3,if_pos e3,T _ hn.1 hn.2]
     ·rw[if_neg e3,if_neg e3];have ho:=g3 (by omega);rw[T _ hn.1 hn.2,T _ ho.1 ho.2]
def fU(ms:List MS)(ah bh:Int)(u:Int)(st:Int)(f:FS):FS×Bool:=gH ms ah bh ms.length u st f
def FS.mark(f:FS)(u:Nat):FS:=⟨f.seen.set u true,f.dO,f.next⟩
theorem aiP(hu:u<ms.length)(hs:f.seen.getD u true=true):fU ms ah bh u st f=(f,false):=by
 unfold fU;obtain⟨d,hd⟩:∃d,ms.length=d+1:=⟨ms.length-1,by omega⟩
 rw[hd];unfold gH;rw[Az,if_pos hs]
theorem aiQ(hg:fg ms)(hm:ms[u]? =some m)(hs:f.seen.getD u true=false):
 (m.kind=0->fU ms ah bh u st f=(f.mark u,true))/\(m.kind=1->fU ms ah bh u st f=(ny m bh st (f.mark u),false))/\
 (m.kind=2->fU ms ah bh u st f=if fi m.eM ah bh then fU ms ah bh m.next st (f.mark u)else(f.mark u,false))/\
 (m.kind=3->fU ms ah bh u st f=fU ms ah bh m.next st (f.mark u))/\
 (m.kind=4->fU ms ah bh u st f=if(fU ms ah bh m.next st (f.mark u)).2 then fU ms ah bh m.next st (f.mark u)else fU ms ah bh m.bj st (fU ms ah bh m.next st (f.mark u)).1):=by
 have hu:=(Ai.1 hm).1;obtain⟨⟨k0,k4⟩,g1,g2,g3⟩:=hg u m hm;obtain⟨d,hd⟩:∃d,ms.length=d+1:=⟨ms.length-1,by omega⟩
 have T:∀v:Int,0<=v->v<u->∀f,gH ms ah bh d v st f=fU ms ah bh v st f:=fun v h0 hv f=>by
  obtain⟨k,rfl⟩:=Au h0;exact abH hg ah bh d ms.length k st f (by omega) (by omega) (by omega)
 have E:fU ms ah bh u st f=gH ms ah bh (d+1) u st f:=by unfold fU;rw[hd]
 rw[E];unfold gH;rw[Az,hs,hm];simp only[Aq,if_false];refine⟨fun e=>by rw[if_pos e];rfl,fun e=>by rw[if_neg (by omega),if_pos e];rfl,fun e=>?_,fun e=>?_,fun e=>?_⟩
 ·have hn:=g2 (by omega);rw[if_neg (by omega),if_neg (by omega),if_pos e,T _ hn.1 hn.2];rfl
 ·have hn:=g2 (by omega);rw[if_neg (by omega),if_neg (by omega),if_neg (by omega),if_pos e,T _ hn.1 hn.2];rfl
 ·have hn:=g2 (by omega);have ho:=g3 e;rw[if_neg (by omega),if_neg (by omega),if_neg (by omega),if_neg (by omega),T _ hn.1 hn.2,T _ ho.1 ho.2];rfl
def oW(n:Nat)(f:FS):Prop:=f.next.length+f.dO.countP (fun b=>!b)<=n
theorem countP_set{l:List Bool}{k:Nat}(h:l[k]? =some false):(l.set k true).countP (fun b=>!b)+1=l.countP (fun b=>!b):=by
 induction l generalizing k with
 |nil=>simp at h
 |cons a t ih=>
  cases k with
  |zero=>
   simp only[Fc,Bd]at h;subst h;simp[Ea]
  |succ k=>
   simp only[D9]at h;simp only[Ac,Ea];have:=ih h;omega
theorem afJ(h:oW n f):oW n (ny m bh st f):=by
 unfold ny;split
 ·rename_i hc
  simp only[Cq,Cf]at hc;unfold oW at*
  have hb:f.dO[m.next.toNat]? =some false:=by
   have:=hc.2;rw[Af]at this
   cases hx:f.dO[m.next.toNat]? with
   |none=>rw[hx]at this;cases this
   |some v=>rw[hx]at this;simp at this;rw[this]
  have:=countP_set hb;simp only[Aj,Ax,Bf];omega
 ·exact h
theorem apk(h:FQ n f):FQ n (ny m bh st f):=by
 unfold ny;split
 ·exact⟨h.1,by simp only[Bp];exact h.2⟩
 ·exact h
structure FP(ms:List MS)(ah kj bh sU:Int):Prop where
 take:∀(u:Nat) (m:MS),ms[u]? =some m->m.kind=1->fW m.sp m.fo m.nt bh=fW m.sp m.fo m.nt sU
 eM:∀(u:Nat) (m:MS),ms[u]? =some m->m.kind=2->fi m.eM ah bh=fi m.eM kj sU
def ij(φ:Int->Int)(l:List bJ):List bJ:=l.map fun t=>(t.1,φ t.2)
def FS.ij(φ:Int->Int)(f:FS):FS:=⟨f.seen,f.dO,Go.Proofs.YtpdnofhackjfdaaGreatDoor.ij φ f.next⟩
theorem abF(h:FP ms ah kj bh sU)(φ:Int->Int):∀(d:Nat) (u st:Int) (f:FS),gH ms kj sU d u (φ st) (f.ij φ)=((gH ms ah bh d u st f).1.ij φ,(gH ms ah bh d u st f).2)
 |0,u,st,f=>rfl
 |d+1,u,st,f=>by
  unfold gH;have IH:=fun u st f=>abF h φ d u st f
  by_cases h1:f.seen.getD u.toNat true=true
  ·rw[if_pos (show(f.ij φ).seen.getD u.toNat true=true from h1),if_pos h1]
  ·rw[if_neg (show¬(f.ij φ).seen.getD u.toNat true=true from h1),if_neg h1]
   cases hm:ms[u.toNat]? with
   |none=>rfl
   |some m=>
    dsimp only;have R:(⟨(f.ij φ).seen.set u.toNat true,(f.ij φ).dO,(f.ij φ).next⟩:FS)=FS.ij φ ⟨f.seen.set u.toNat true,f.dO,f.next⟩:=rfl;rw[R];by_cases e0:m.kind=0
    ·rw[if_pos e0,if_pos e0]
    ·rw[if_neg e0,if_neg e0];by_cases e1:m.kind=1
     ·rw[if_pos e1,if_pos e1];unfold ny;rw[<-h.take _ m hm e1];by_cases hc:(fW m.sp m.fo m.nt bh&& !f.dO.getD m.next.toNat true)=true
      ·rw[if_pos (show(fW m.sp m.fo m.nt bh&& !(FS.ij φ ⟨f.seen.set u.toNat true,f.dO,f.next⟩).dO.getD m.next.toNat true)=true from hc),if_pos (show(fW m.sp m.fo m.nt bh&& !(⟨f.seen.set u.toNat true,f.dO,f.next⟩:FS).dO.getD m.next.toNat true)=true from hc)];simp[FS.ij,ij]
      ·rw[if_neg (show¬(fW m.sp m.fo m.nt bh&& !(FS.ij φ ⟨f.seen.set u.toNat true,f.dO,f.next⟩).dO.getD m.next.toNat true)=true from hc),if_neg (show¬(fW m.sp m.fo m.nt bh&& !(⟨f.seen.set u.toNat true,f.dO,f.next⟩:FS).dO.getD m.next.toNat true)=true from hc)]
     ·rw[if_neg e1,if_neg e1];by_cases e2:m.kind=2
      ·rw[if_pos e2,if_pos e2,<-h.eM _ m hm e2];by_cases hh:fi m.eM ah bh=true
       ·rw[if_pos hh,if_pos hh];exact IH _ _ _
       ·rw[if_neg hh,if_neg hh]
      ·rw[if_neg e2,if_neg e2];by_cases e3:m.kind=3
       ·rw[if_pos e3,if_pos e3];exact IH _ _ _
       ·rw[if_neg e3,if_neg e3,IH];by_cases hr:(gH ms ah bh d m.next st ⟨f.seen.set u.toNat true,f.dO,f.next⟩).2=true
        ·rw[if_pos hr,if_pos hr]
        ·rw[if_neg hr,if_neg hr];exact IH _ _ _
theorem afw(h:FP ms ah kj bh sU)(φ:Int->Int):∀(l:List bJ) (f:FS),je ms kj sU (ij φ l) (f.ij φ)=((je ms ah bh l f).1.ij φ,(je ms ah bh l f).2.map φ)
 | [],f=>rfl
 |t::ts,f=>by
  show je ms kj sU ((t.1,φ t.2)::ij φ ts) (f.ij φ)=_
  unfold je;rw[abF h φ];by_cases hr:(gH ms ah bh ms.length t.1 t.2 f).2=true
  ·rw[if_pos hr,if_pos hr];rfl
  ·rw[if_neg hr,if_neg hr];exact afw h φ ts _
theorem YE(h:FP ms ah kj bh sU)(φ:Int->Int)(l:List bJ):bc ms kj sU (ij φ l)=(ij φ (bc ms ah bh l).1,(bc ms ah bh l).2.map φ):=by
 have:=afw h φ l (FS.new ms.length);have e:(FS.new ms.length).ij φ=FS.new ms.length:=rfl;rw[e]at this;unfold bc;rw[this];rfl
