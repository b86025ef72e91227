/- Package threads' -/
import Derived.Test.YtpdnofhackjfdaaGreatDoorP31
set_option linter.all false
set_option maxRecDepth 100000
set_option maxHeartbeats 8000000
namespace Go.Proofs.YtpdnofhackjfdaaGreatDoor
open Go.Proofs.Tryz
open Go.RowKit Go.Maps
variable {mt:Bool} {g:FG} {f:FS} {ah bh p:Int} {ms:List MS} {l:List bG} {xs:List Value} {base eb n:Nat} {K:Nat->Prop} {lv nv sv:Value} {W w w':World}
theorem afj{P:Program}{ops:Array Oper}{rest:List Oper}{o:Oper}{a:Act}{Q:Exit->Act->World->Prop}(iI:o.guard=none)(d:Operand)(dT:TypeId)
 (ho:o.op=.call {callee:=.builtin .clear,args:=#[d],argTypes:=#[dT]})(elem:TypeId)(hu:P.underlying dT=some (.slice elem))(hz:(zeroValue elem).run P w=.ok (.bool false) w)
 (g n c:Nat)(hd:a.eval d=.slice (some ⟨g,0,none⟩) n c)(hn:n≠0)
 (bs:List Bool)(t:TypeId)(hg:aq w g (kO bs).toArray t)(tX:bs.length=n)
 (h:∀w',aq w' g (kO (List.replicate n false)).toArray t->aa (fun i=>i=g) w w'->wpList P ops Q rest (a.put o.dst (.tuple #[])) w'):wpList P ops Q (o::rest) a w:=by
 refine wpList_plain iI fun K hK=>?_
 have h:=h _ (setRow_heap w g _ _ t _ hg) (aa.row g _);have gD:(kO bs).length=n:=by unfold kO;simp[tX]
 have bC:=run_storeCells_at P g 0 t (List.replicate n (.bool false)) 0 _ w hg (by simp[gD]) (by intro v hv;rw[D4 hv];rfl)
 have sY:(Builtin.clear_ #[dT] o.type #[.slice (some ⟨g,0,none⟩) n c]).run P w=.ok (.tuple #[]) (w.setRow g (kO (List.replicate n false)).toArray):=by
  obtain⟨m,rfl⟩:∃m,n=m+1:=⟨n-1,by omega⟩
  have e2:kO (List.replicate (m+1) false)=List.replicate (m+1) (.bool false):=by simp[kO]
  simp only[Builtin.clear_,go_sem];simp[Gh hu,hz,afm,bC];have e3:List.drop (m+1) (kO bs)=[]:=C2 (by omega);rw[e2,e3];simp
 unfold Oper.wp;simp[execOp,ho,resolve,invoke,builtin,hd,sY,Result.andThen];exact hK _ _ h
theorem WJ{e size c:Nat}{ao:Option Addr}(h:w.ownsRow base e size (.slice ao n c) n xs):w.ownsRow base e size (.slice ao 0 c) 0 []:=by
 refine⟨by simp,?_⟩;rcases h.2 with⟨h2,h3⟩|⟨g,cap,aM,h3,h4,h5,h6,h7,h8,h9⟩
 ·cases h2;exact Or.inl ⟨rfl,rfl⟩
 ·cases h3;exact Or.inr ⟨g,c,aM,rfl,h4,h5,Ao _,h7,h8,by simp⟩
structure pI(w:World)(b:Nat)(a:Option Addr)(l:List bG):Prop where
 at_:l≠ []->a=some ⟨b,0,none⟩/\b<w.heap.size
 cells:∀k,(h:k<l.length)->w.cell? ⟨b,k*2,none⟩=some (.int .i64 (l[k]).1)/\w.cell? ⟨b,k*2+1,none⟩=some (.int .i64 (l[k]).2)
theorem pI.kept{b:Nat}{a:Option Addr}(h:pI w b a l)(k:aa K w w')(hK:l≠ []->¬K b):pI w' b a l:=
 ⟨fun hl=>⟨(h.at_ hl).1,As (h.at_ hl).2 k.size⟩,fun i hi=>by
   have az:l≠ []:=by intro e;subst e;simp at hi
   exact⟨(k.cell (p:=⟨b,i*2,none⟩) (h.at_ az).2 (hK az)).trans (h.cells i hi).1,(k.cell (p:=⟨b,i*2+1,none⟩) (h.at_ az).2 (hK az)).trans (h.cells i hi).2⟩⟩
theorem RQ{k:Nat}(h:k<l.length):(eI l)[k*2]? =some (.int .i64 (l[k]).1)/\(eI l)[k*2+1]? =some (.int .i64 (l[k]).2):=by
 induction l generalizing k with
 |nil=>simp at h
 |cons t ts ih=>
  have e:eI (t::ts)=.int .i64 t.1::.int .i64 t.2::eI ts:=rfl;rw[e]
  cases k with
  |zero=>exact⟨rfl,rfl⟩
  |succ k=>
   have:=ih (k:=k) (by simpa using h);rw[show(k+1)*2=k*2+1+1 by omega,show k*2+1+1+1=(k*2+1)+1+1 by omega];simp only[Ea,Ah];exact this
theorem pI.of{v:Value}(h:w.ownsRow base 256 2 v l.length (eI l)):∃b a c,v=.slice a l.length c/\pI w b a l/\(l≠ []->v.ownBlock=some b):=by
 rcases h.2 with⟨h2,h3⟩|⟨g,cap,aM,h3,h4,h5,h6,h7,h8,h9⟩
 ·have:l=[]:=Ax.1 h3;subst this;exact⟨0,none,0,h2,⟨fun hx=>absurd rfl hx,fun k hk=>by simp at hk⟩,fun hx=>absurd rfl hx⟩
 ·refine⟨g,some ⟨g,0,none⟩,cap,h3,⟨fun _=>⟨rfl,(Am.1 h5).1⟩,fun k hk=>?_⟩,fun _=>by rw[h3];rfl⟩
  have hc:∀i,i<l.length*2->w.cell? ⟨g,i,none⟩=(eI l)[i]? :=fun i hi=>by
   rw[<-h9,Aw hi];simp only[World.cell?,h5];simp
  exact⟨(hc _ (by omega)).trans (RQ hk).1,(hc _ (by omega)).trans (RQ hk).2⟩
structure jc(w:World)(g:FG):Prop where
 ex:∃(ah bh:Int) (nv:Value) (s1 b1:List Bool),aq w g.fb #[g.mv,.int .i64 g.st,.int .i64 g.G,.int .i32 ah,.int .i32 bh,.slice (some ⟨g.sb,0,none⟩) g.ms.length g.ms.length,.slice (some ⟨g.bb,0,none⟩) g.ms.length g.ms.length,nv] 183/\(aq w g.sb (kO s1).toArray 4/\s1.length=g.ms.length)/\(aq w g.bb (kO b1).toArray 4/\b1.length=g.ms.length)
 ma:jt w g.lo g.hi g.mb g.c g.vs g.ms
theorem gQa.fA(h:gQa w g ah bh nv f):jc w g:=⟨⟨ah,bh,nv,f.seen,f.dI,h.aj,⟨h.sn,h.sz.1⟩,⟨h.bg,h.sz.2⟩⟩,h.ma⟩
theorem jc.kept(h:jc w g)(k:aa K w w')(hK:∀i,K i->¬(i=g.fb\/i=g.sb\/i=g.bb)/\¬g.cM i):jc w' g:=by
 obtain⟨ah,bh,nv,s1,b1,h1,⟨h2,h3⟩,⟨h4,h5⟩⟩:=h.ex;exact⟨⟨ah,bh,nv,s1,b1,h1.kept k (fun hx=>(hK _ hx).1 (Or.inl rfl)),⟨h2.kept k (fun hx=>(hK _ hx).1 (Or.inr (Or.inl rfl))),h3⟩,⟨h4.kept k (fun hx=>(hK _ hx).1 (Or.inr (Or.inr rfl))),h5⟩⟩,h.ma.Jw k (fun i hx=>(hK i hx).2)⟩
theorem jc.new(h:jc w g)(k:aa af w w'):jc w' g:=h.kept k (fun _ hx=>hx.elim)
structure Te(w wr:World)(g:FG)(ah bh:Int)(iv nv:Value)(l:List bG)(k:Nat)(f:FS):Prop where
 fl:gQa wr g ah bh nv f
 dA:cH (dG g iv) (dG g nv) w wr
 eq:iK g.ms ah bh l (FS.new g.ms.length)=iK g.ms ah bh (l.drop k) f
theorem abk{iv:Value}{lb lc:Nat}{la:Option Addr}(hg:g.Ok)(hI:jc w g)(hb:0<=bh/\bh<=1114111)(hl:pI w lb la l)(uc:l≠ []->¬dG g iv lb)(QE:∀t∈l,0<=t.1/\t.1<g.ms.length)(cT:l.length<=10000)(hv:w.ownsRow 0 256 2 iv n xs)(Qb:∀i,iv.ownBlock=some i->(i≠g.fb/\i≠g.sb/\i≠g.bb)/\¬g.cM i)(xh:g.ms.length≠0):
 Calls prog 228 #[.pointer (some ⟨g.fb,0,none⟩),.slice la l.length lc,iv,.int .i32 ah,.int .i32 bh] w fun e w'=>∃nv,e=.returned (.tuple #[nv,.int .i64 ((aZ g.ms ah bh l).2.getD 0),.bool (aZ g.ms ah bh l).2.isSome])/\w'.ownsRow 0 256 2 nv (aZ g.ms ah bh l).1.length (eI (aZ g.ms ah bh l).1)/\jc w' g/\cH (dG g iv) (dG g nv) w w'/\(∀i,nv.ownBlock=some i->(i≠g.fb/\i≠g.sb/\i≠g.bb)/\¬g.cM i)/\(aZ g.ms ah bh l).1.length<=g.ms.length:=by
 obtain⟨ah0,nC,nv0,s1,b1,hB,⟨hS,cU⟩,⟨AA,iW⟩⟩:=hI.ex;obtain⟨ao,cv,rfl⟩:=cK hv;have c5:w.cell? ⟨g.fb,5,none⟩=some (.slice (some ⟨g.sb,0,none⟩) g.ms.length g.ms.length):=hB.cell 5;have HG:=ab hg;have HB:=ab hB;have HS:=ab hS;have tD:=ab AA;have HV:=ab hv;have YB:=ab Qb;have HL:=ab hl;have SE:=ab hI.ma;clear hg hI hl hv Qb hB hS AA;go_in;go_wp2_with (refine afj rfl (.tmp 18) 181 rfl 4 underlying181 ?z g.sb g.ms.length g.ms.length rfl xh s1 4 HS.o cU ?_)
 case z=>exact zeroValue4 _
 intro w1 abo aU;have c6:w1.cell? ⟨g.fb,6,none⟩=some (.slice (some ⟨g.bb,0,none⟩) g.ms.length g.ms.length):=(HB.o.kept aU (fun hx=>HG.o.ap.1 hx)).cell 6;have Yc:=ab (tD.o.kept aU (fun hx=>HG.o.ap.2.2 hx.symm));have uM:=ab abo;have Ie:=ab aU;clear abo aU c5;go_wp2_with (refine afj rfl (.tmp 22) 181 rfl 4 underlying181 ?z g.bb g.ms.length g.ms.length rfl xh b1 4 Yc.o iW ?_)
 case z=>exact zeroValue4 _
 intro w2 mS aN;have jD:=ab ((HB.o.kept Ie.o (fun hx=>HG.o.ap.1 hx)).kept aN (fun hx=>HG.o.ap.2.1 hx));have gX:=ab (uM.o.kept aN (fun hx=>HG.o.ap.2.2 hx));have Yd:=ab mS;have mM:Hid (aa (fun i=>i=g.sb\/i=g.bb) w w2):=(Ie.o.mono (fun i hx=>Or.inl hx)).trans (aN.mono (fun i hx=>Or.inr hx));clear mS aN c6 uM Yc Ie HB HS tD;go_wp2_with fail;have hS:∀W:World,(fun _:World=>True) W:=fun _=>trivial
 have x3:=jD.o.cell 3;have x4:=jD.o.cell 4;have x7:=jD.o.cell 7;have y3:=jD.o.frozen 3;have y4:=jD.o.frozen 4;have y7:=jD.o.frozen 7;refine j9 (Ch (by kernel_rfl) (Cc (S:=fun _=>True) _ _ _ _ ?_));refine ai 0 23 (.pointer (some ⟨g.fb,0,none⟩)) trivial ?_;refine ai 1 24 (.pointer (some ⟨g.fb,0,none⟩)) trivial ?_;refine ai 2 25 (.pointer (some ⟨g.fb,0,none⟩)) trivial ?_;refine ai 3 26 (.int .i32 ah) trivial ?_;refine ai 4 27 (.int .i32 bh) trivial ?_;refine ai 5 28 (.slice ao n cv) trivial ?_;refine ai 6 29 (.slice ao 0 cv) trivial ?_;refine ai 7 30 (.pointer (some ⟨g.fb,0,none⟩)) trivial ?_;refine ai 8 31 (.pointer (some ⟨g.fb,3,none⟩)) trivial ?_;simp only[Act.put,Aa,Ad,Ac];refine bQ 9 fun K hK=>?_
 go_simp;refine hK.o _ _ trivial (fun _=>?_);clear hK K;refine ai 10 32 (.pointer (some ⟨g.fb,0,none⟩)) trivial ?_;refine ai 11 33 (.pointer (some ⟨g.fb,4,none⟩)) trivial ?_;simp only[Act.put,Aa,Ad,Ac];refine bQ 12 fun K hK=>?_
 have x4':(w2.setCell ⟨g.fb,3,none⟩ (.int .i32 ah)).cell? ⟨g.fb,4,none⟩=some (.int .i32 nC):=((jD.o.setCell 3 (.int .i32 ah)).cell 4);have y4':=(jD.o.setCell 3 (.int .i32 ah)).frozen 4;go_simp;refine hK.o _ _ trivial (fun _=>?_);clear hK K;refine ai 13 34 (.pointer (some ⟨g.fb,0,none⟩)) trivial ?_;refine ai 14 35 (.pointer (some ⟨g.fb,7,none⟩)) trivial ?_;simp only[Act.put,Aa,Ad,Ac];refine bQ 15 fun K hK=>?_
 have x7':((w2.setCell ⟨g.fb,3,none⟩ (.int .i32 ah)).setCell ⟨g.fb,4,none⟩ (.int .i32 bh)).cell? ⟨g.fb,7,none⟩=some nv0:=(((jD.o.setCell 3 (.int .i32 ah)).setCell 4 (.int .i32 bh)).cell 7);have y7':=((jD.o.setCell 3 (.int .i32 ah)).setCell 4 (.int .i32 bh)).frozen 7;go_simp;refine hK.o _ _ trivial (fun _=>?_);clear hK K;refine At (by kernel_rfl) ?_ _;refine jy ?_
 have uG:Hid (aq (((w2.setCell ⟨g.fb,3,none⟩ (.int .i32 ah)).setCell ⟨g.fb,4,none⟩ (.int .i32 bh)).setCell ⟨g.fb,7,none⟩ (.slice ao 0 cv)).drew g.fb #[g.mv,.int .i64 g.st,.int .i64 g.G,.int .i32 ah,.int .i32 bh,.slice (some ⟨g.sb,0,none⟩) g.ms.length g.ms.length,.slice (some ⟨g.bb,0,none⟩) g.ms.length g.ms.length,.slice ao 0 cv] 183):=by
  have:=((jD.o.setCell 3 (.int .i32 ah)).setCell 4 (.int .i32 bh)).setCell 7 (.slice ao 0 cv);simp only[Aa,Ad,Ac]at this;exact this
 have iN:Hid (aa (fun i=>i=g.fb) w2 (((w2.setCell ⟨g.fb,3,none⟩ (.int .i32 ah)).setCell ⟨g.fb,4,none⟩ (.int .i32 bh)).setCell ⟨g.fb,7,none⟩ (.slice ao 0 cv)).drew):=((((aa.refl (fun i=>i=g.fb) w2).setCell (p:=⟨g.fb,3,none⟩) (Or.inl rfl) _).setCell (p:=⟨g.fb,4,none⟩) (Or.inl rfl) _).setCell (p:=⟨g.fb,7,none⟩) (Or.inl rfl) _).drew;generalize(((w2.setCell ⟨g.fb,3,none⟩ (.int .i32 ah)).setCell ⟨g.fb,4,none⟩ (.int .i32 bh)).setCell ⟨g.fb,7,none⟩ (.slice ao 0 cv)).drew=w3 at*;have K3:Hid (aa (fun i=>i=g.fb\/i=g.sb\/i=g.bb) w w3):=(mM.o.mono (fun i hx=>Or.inr hx)).trans (iN.o.mono (fun i hx=>Or.inl hx));have xN:(Value.slice ao 0 cv).ownBlock=(Value.slice ao n cv).ownBlock:=by cases ao<;>rfl
 have HF:Hid (gQa w3 g ah bh (.slice ao 0 cv) (FS.new g.ms.length)):=
  ⟨uG.o,gX.o.kept iN.o (fun hx=>HG.o.ap.1 hx.symm),Yd.o.kept iN.o (fun hx=>HG.o.ap.2.1 hx.symm),bY (WJ HV.o) K3.o (fun i hi hx=>by
    have:=(YB.o i (xN▸hi)).1;omega),⟨by simp[FS.new],by simp[FS.new]⟩,by simp[oP,FS.new,List.countP_replicate],fun i hi=>YB.o i (xN▸hi),SE.o.Jw K3.o (fun i hx=>by
    rcases hx with rfl|rfl|rfl
    ·exact HG.o.am.1
    ·exact HG.o.am.2.1
    ·exact HG.o.am.2.2)⟩
 have du:Hid (Te w w3 g ah bh (.slice ao n cv) (.slice ao 0 cv) l 0 (FS.new g.ms.length)):=⟨HF.o,⟨K3.o.mono (fun i hx=>Or.inl hx),fun i hi=>Or.inl (by unfold dG at hi⊢;rw[xN]at hi;exact hi)⟩,rfl⟩;clear xN x3 x4 x7 y3 y4 y7 x4' y4' x7' y7' jD uG iN mM gX Yd hS;go_wp2_with fail;go_loopg [38] l.length (fun kk v wr=>∃(k:Nat) (nv:Value) (f:FS),v=.int .i64 (k:Int)/\k<=l.length/\kk=l.length-k/\Hid (Te w wr g ah bh (.slice ao n cv) nv l k f))
 case atStart=>exact⟨0,_,_,rfl,Ao _,rfl,du⟩
 case round=>
  obtain⟨k,nv,f,rfl,hk,eZ,HI⟩:=hrel;clear du;by_cases aw:k<l.length
  ·have iX:(k:Int)<(l.length:Int):=(by omega);have az:l≠ []:=by intro e;subst e;simp at aw
   obtain⟨Jc,aqk⟩:=HL.o.at_ az;subst Jc;have ue:¬dG g (.slice ao n cv) lb:=uc az;have yx:=HI.o.dA.kept;have hc:=(HL.o.kept yx (fun _=>ue)).cells k aw;obtain⟨z1,z2⟩:=hc;have ht:=QE _ (A5 aw);have rE:l.drop k=l[k]::l.drop (k+1):=Bj aw;obtain⟨tu,ug⟩:∃tu:Nat,(l[k]).1=(tu:Int):=⟨(l[k]).1.toNat,by omega⟩
   rw[ug]at z1;have Ss:=ab rE;have SM:=ab ug;obtain⟨ts,oE⟩:∃ts,(l[k]).2=ts:=⟨_,rfl⟩
   rw[oE]at z2;have SL:=ab oE;have VH:tu<g.ms.length:=(by omega);clear yx rE ug oE ht;have F:=(ab fun(W:World) (h:aa af wr W)=>aic (st:=ts) HG.o hb tu VH W nv f (HI.o.fl.new h));go_wp2_with fail;have kA:aa af wr (wr.alloc (.cells #[.int .i64 (tu:Int),.int .i64 ts] 256)):=(aa.refl af wr).alloc _;have Uk:=aq.new wr #[.int .i64 (tu:Int),.int .i64 ts] 256;refine(F.o _ kA).mono ?_;rintro e w4 ⟨rfl,eu,h4,g4⟩;have Ul:=Uk.kept g4.kept (fun hx=>by have:=HI.o.fl.lt hx;omega);have z3:w4.cell? ⟨wr.heap.size,1,none⟩=some (.int .i64 ts):=Ul.cell 1
   have e4:iK g.ms ah bh (l.drop k) f=if(fH g.ms ah bh (tu:Int) ts f).2 then((fH g.ms ah bh (tu:Int) ts f).1,some ts)else iK g.ms ah bh (l.drop (k+1)) (fH g.ms ah bh (tu:Int) ts f).1:=by
    rw[Ss.o];conv=>lhs;unfold iK
    rw[SM.o,SL.o];rfl
   have GO:cH (dG g (.slice ao n cv)) (dG g eu) w w4:=(HI.o.dA.new kA).trans g4;have c7:w4.cell? ⟨g.fb,7,none⟩=some eu:=h4.aj.cell 7
   cases hr:(fH g.ms ah bh (tu:Int) ts f).2 with
   |true=>
    have ax:Hid (((aZ g.ms ah bh l).2=some ts)/\w4.ownsRow 0 256 2 eu (aZ g.ms ah bh l).1.length (eI (aZ g.ms ah bh l).1)/\jc w4 g/\cH (dG g (.slice ao n cv)) (dG g eu) w w4/\(∀i,eu.ownBlock=some i->(i≠g.fb/\i≠g.sb/\i≠g.bb)/\¬g.cM i)/\(aZ g.ms ah bh l).1.length<=g.ms.length):=by
     have e5:=HI.o.eq.trans e4;rw[hr,if_pos rfl]at e5;unfold aZ;rw[e5];exact⟨rfl,h4.nx,h4.fA,GO,h4.an,by have:=h4.fw;unfold oP at this;show(fH g.ms ah bh (tu:Int) ts f).1.next.length<=_;omega⟩
    clear e4 GO h4 g4 Uk Ul F HI Ss SM SL hr;go_wp2_with fail;go_big_quiet (fail);go_wp2_with fail;have kq:aa af w4 (w4.drewN nq):=(aa.refl af w4).drewN nq;exact Bi (v:=.tuple #[eu,.int .i64 ts,.bool true]) (by simp[results,results228,go_sem]) rfl ⟨eu,by rw[ax.o.1];rfl,bY ax.o.2.1 kq (fun _ _ hx=>hx),ax.o.2.2.1.new kq,ax.o.2.2.2.1.new kq,ax.o.2.2.2.2⟩
   |false=>
    have ax:Hid (Te w w4 g ah bh (.slice ao n cv) eu l (k+1) (fH g.ms ah bh (tu:Int) ts f).1):=⟨h4,GO,by
     have e5:=HI.o.eq.trans e4;rw[hr,if_neg (by simp)]at e5;exact e5⟩
    clear e4 GO h4 g4 Uk Ul F HI Ss SM SL hr c7 z3;go_wp2_with fail;go_roundg (l.length-(k+1))
    case measure=>omega
    case rel=>exact⟨k+1,eu,_,by simp,by omega,rfl,ax⟩
  ·have iX:¬(k:Int)<(l.length:Int):=(by omega);have c7:wr.cell? ⟨g.fb,7,none⟩=some nv:=HI.o.fl.aj.cell 7
   have ax:Hid (((aZ g.ms ah bh l).2=none)/\wr.ownsRow 0 256 2 nv (aZ g.ms ah bh l).1.length (eI (aZ g.ms ah bh l).1)/\jc wr g/\cH (dG g (.slice ao n cv)) (dG g nv) w wr/\(∀i,nv.ownBlock=some i->(i≠g.fb/\i≠g.sb/\i≠g.bb)/\¬g.cM i)/\(aZ g.ms ah bh l).1.length<=g.ms.length):=by
    have e5:=HI.o.eq;rw[C2 (by omega)]at e5;unfold aZ;rw[e5];exact⟨rfl,HI.o.fl.nx,HI.o.fl.fA,HI.o.dA,HI.o.fl.an,by have:=HI.o.fl.fw;unfold oP at this;show f.next.length<=_;omega⟩
   clear HI;go_wp2_with fail;exact Bi (v:=.tuple #[nv,.int .i64 0,.bool false]) (by simp[results,results228,go_sem]) rfl ⟨nv,by rw[ax.o.1];rfl,ax.o.2⟩
def lh(eb:Nat)(g:FG)(lv sv:Value)(i:Nat):Prop:=i=eb\/dG g lv i\/sv.ownBlock=some i
structure pE(w:World)(eb:Nat)(g:FG)(ah:Int)(mt:Bool)(l:List bG)(lv sv:Value):Prop where
 aj:aq w eb #[.int .i64 g.st,.pointer (some ⟨g.fb,0,none⟩),.int .i32 ah,lv,sv,.bool mt] 153
 ls:w.ownsRow 0 256 2 lv l.length (eI l)
 sp:∃n xs,w.ownsRow 0 256 2 sv n xs
 fA:jc w g
 bJ:l.length<=g.ms.length
 aV:∀t∈l,0<=t.1/\t.1<g.ms.length
 ae:(eb≠g.fb/\eb≠g.sb/\eb≠g.bb)/\¬g.cM eb
 rm:∀i,lv.ownBlock=some i->((i≠g.fb/\i≠g.sb/\i≠g.bb)/\¬g.cM i)/\i≠eb
 uZ:∀i,sv.ownBlock=some i->((i≠g.fb/\i≠g.sb/\i≠g.bb)/\¬g.cM i)/\i≠eb
 yK:∀i,lv.ownBlock=some i->sv.ownBlock≠some i
theorem pE.kept(h:pE w eb g ah mt l lv sv)(k:aa K w w')(hK:∀i,K i->¬lh eb g lv sv i/\¬g.cM i):pE w' eb g ah mt l lv sv:=by
 obtain⟨n,xs,hs⟩:=h.sp;exact⟨h.aj.kept k (fun hx=>(hK _ hx).1 (Or.inl rfl)),bY h.ls k (fun i hi hx=>(hK _ hx).1 (Or.inr (Or.inl (Or.inr hi)))),⟨n,xs,bY hs k (fun i hi hx=>(hK _ hx).1 (Or.inr (Or.inr hi)))⟩,h.fA.kept k (fun i hx=>⟨fun hy=>(hK _ hx).1 (Or.inr (Or.inl (Or.inl hy))),(hK _ hx).2⟩),h.bJ,h.aV,h.ae,h.rm,h.uZ,h.yK⟩
theorem pE.NI{w7:World}{de:Value}(bC:0<=g.st/\g.st<g.ms.length)(h:pE w eb g ah mt l lv sv)(k0:aa af w W)(bt:w7.ownsRow 0 256 2 de (l.length+1) (eI l++[.int .i64 g.st,.int .i64 p]))(dN:W.grownBy w7 lv.ownBlock)(cB:de.ownBlock=lv.ownBlock\/de.ownBlock=some W.heap.size):
 (w7.cell? ⟨eb,3,none⟩=some lv/\w7.cell? ⟨eb,0,none⟩=some (.int .i64 g.st)/\w7.frozen? ⟨eb,3,none⟩=false)/\
 (aq (w7.setCell ⟨eb,3,none⟩ de) eb #[.int .i64 g.st,.pointer (some ⟨g.fb,0,none⟩),.int .i32 ah,de,sv,.bool mt] 153/\(w7.setCell ⟨eb,3,none⟩ de).ownsRow 0 256 2 de (l++[(g.st,p)]).length (eI (l++[(g.st,p)]))/\(∃n xs,(w7.setCell ⟨eb,3,none⟩ de).ownsRow 0 256 2 sv n xs)/\jc (w7.setCell ⟨eb,3,none⟩ de) g/\(∀i,de.ownBlock=some i->((i≠g.fb/\i≠g.sb/\i≠g.bb)/\¬g.cM i)/\i≠eb/\sv.ownBlock≠some i))/\cH (lh eb g lv sv) (lh eb g de sv) w (w7.setCell ⟨eb,3,none⟩ de):=by
 have k7:aa (fun i=>lv.ownBlock=some i) w w7:=(k0.mono (fun i hx=>hx.elim)).eQ dN (fun j hj=>Or.inl hj);have kf:aa (fun i=>i=eb) w7 (w7.setCell ⟨eb,3,none⟩ de):=(aa.refl (fun i=>i=eb) w7).setCell (p:=⟨eb,3,none⟩) (Or.inl rfl) _;have b7:=h.aj.kept k7 (fun hx=>(h.rm _ hx).2 rfl);have Jk:w.heap.size<=W.heap.size:=k0.size;obtain⟨n,xs,hs⟩:=h.sp
 have lP:∀i,de.ownBlock=some i->lv.ownBlock=some i\/w.heap.size<=i:=fun i hi=>by
  rcases cB with hl|hl
  ·exact Or.inl (hl▸hi)
  ·rw[hl]at hi;cases hi;right;exact Jk
 obtain⟨_,_,_,s1,b1,hB,⟨hS,_⟩,⟨AA,_⟩⟩:=h.fA.ex
 have Mq:∀i,de.ownBlock=some i->((i≠g.fb/\i≠g.sb/\i≠g.bb)/\¬g.cM i)/\i≠eb/\sv.ownBlock≠some i:=fun i hi=>by
  rcases lP i hi with h1|h1
  ·exact⟨(h.rm i h1).1,(h.rm i h1).2,h.yK i h1⟩
  ·have f1:=hB.lt;have f2:=hS.lt;have f3:=AA.lt;have f4:=h.aj.lt;refine⟨⟨⟨by omega,by omega,by omega⟩,fun hx=>?_⟩,by omega,fun hx=>?_⟩
   ·have m1:=h.fA.ma.iw.lt;have m2:=h.fA.ma.le;have m3:=h.fA.ma.j8.lt;rcases hx with(hx|hx)|(hx|hx)<;>omega
   ·have:=(dE hs hx).2;omega
 refine⟨⟨b7.cell 3,b7.cell 0,b7.frozen 3⟩,⟨?_,?_,⟨n,xs,?_⟩,?_,Mq⟩,⟨?_,fun i hi=>?_⟩⟩
 ·have:=b7.setCell 3 de;simpa using this
 ·rw[Aj,XG];exact bY bt kf (fun i hi hx=>(Mq i hi).2.1 hx)
 ·exact bY (bY hs k7 (fun i hi hx=>h.yK i hx hi)) kf (fun i hi hx=>(h.uZ i hi).2 hx)
 ·refine(h.fA.kept k7 (fun i hx=>⟨fun hy=>?_,(h.rm i hx).1.2⟩)).kept kf (fun i hx=>⟨fun hy=>?_,by rw[hx];exact h.ae.2⟩)
  ·have:=(h.rm i hx).1.1;omega
  ·have:=h.ae.1;omega
 ·exact(k7.mono (fun i hi=>Or.inr (Or.inl (Or.inr hi)))).trans (kf.mono (fun i hi=>Or.inl hi))
 ·rcases hi with hi|(hi|hi)|hi
  ·exact Or.inl (Or.inl hi)
  ·exact Or.inl (Or.inr (Or.inl (Or.inl hi)))
  ·rcases lP i hi with h1|h1
   ·exact Or.inl (Or.inr (Or.inl (Or.inr h1)))
   ·exact Or.inr h1
  ·exact Or.inl (Or.inr (Or.inr hi))
theorem aiy(h:pE w eb g ah mt l lv sv):
 Calls prog 225 #[.pointer (some ⟨eb,0,none⟩)] w fun e w'=>e=.returned (.tuple #[.int .i64 ((l.head?.map (·.2)).getD 0),.bool (!l.isEmpty)])/\w'=w:=by
 obtain⟨b,a,c,hv,hT,_⟩:=pI.of h.ls;subst hv;have c3:w.cell? ⟨eb,3,none⟩=some (.slice a l.length c):=h.aj.cell 3
 cases l with
 |nil=>
  simp only[A8]at c3;clear h hT;go_in;go_wp2_with fail;exact Bi (v:=.tuple #[.int .i64 0,.bool false]) (by simp[results,results225,go_sem]) rfl ⟨rfl,rfl⟩
 |cons t ts=>
  obtain⟨ha,_⟩:=hT.at_ (by simp);subst ha;have z:=(hT.cells 0 (by simp)).2;simp only[Ai,Fh,Bf]at z;obtain⟨n,hn⟩:∃n,n=(t::ts).length:=⟨_,rfl⟩
  rw[<-hn]at c3;have Mp:(n:Int)≠0:=by rw[hn];simp;omega
  have pj:¬(n:Int)<=0:=by omega
  have jW:((n:Int)==0)=false:=by simpa using Mp
  clear h hT hn;go_in;go_wp2_with fail;exact Bi (v:=.tuple #[.int .i64 t.2,.bool true]) (by simp[results,results225,go_sem]) rfl ⟨rfl,rfl⟩
def EbS(eb:Nat)(lv:Value)(W:World):Prop:=W.cell? ⟨eb,3,none⟩=some lv
theorem aiw{jF:Int}(h:pE w eb g ah mt l lv sv):
 Calls prog 224 #[.pointer (some ⟨eb,0,none⟩),.int .i32 jF] w fun e w'=>e=.returned (.tuple #[])/\∃de,pE w' eb g jF false [] de sv/\cH (lh eb g lv sv) (lh eb g de sv) w w':=by
 obtain⟨ao,c,hv⟩:=cK h.ls;obtain⟨n,hn⟩:∃n,n=l.length:=⟨_,rfl⟩
 rw[<-hn]at hv;subst hv;have HH:=ab h;have HN:=ab hn;have B0:=ab h.aj;have c3:w.cell? ⟨eb,3,none⟩=some (.slice ao n c):=h.aj.cell 3;clear h hn;go_in;go_wp2_with fail;have ak:EbS eb (.slice ao n c) w.drew:=c3;have x2:=B0.o.cell 2;have y2:=B0.o.frozen 2;refine Ch (by kernel_rfl) (Cc (S:=fun _=>True) _ _ _ _ ?_);refine ai 0 4 (.pointer (some ⟨eb,0,none⟩)) trivial ?_;refine ai 1 5 (.pointer (some ⟨eb,0,none⟩)) trivial ?_;refine ai 2 6 (.pointer (some ⟨eb,0,none⟩)) trivial ?_;refine ai 3 7 (.int .i32 jF) trivial ?_;refine ai 4 8 (.pointer (some ⟨eb,0,none⟩)) trivial ?_;refine ai 5 9 (.pointer (some ⟨eb,0,none⟩)) trivial ?_;refine ai 6 10 (.pointer (some ⟨eb,3,none⟩)) trivial ?_;simp only[Act.put,Aa,Ad,Ac];refine bQ 7 fun K hK=>?_
 go_simp;refine hK.o _ _ trivial (fun _=>?_);clear hK K;refine ai 8 12 (.slice ao 0 c) trivial ?_;refine ai 9 13 (.pointer (some ⟨eb,0,none⟩)) trivial ?_;refine ai 10 14 (.pointer (some ⟨eb,2,none⟩)) trivial ?_;simp only[Act.put,Aa,Ad,Ac];refine bQ 11 fun K hK=>?_
 go_simp;refine hK.o _ _ trivial (fun _=>?_);clear hK K;refine ai 12 15 (.pointer (some ⟨eb,0,none⟩)) trivial ?_;refine ai 13 16 (.pointer (some ⟨eb,3,none⟩)) trivial ?_;simp only[Act.put,Aa,Ad,Ac];refine bQ 14 fun K hK=>?_
 have x3:(w.setCell ⟨eb,2,none⟩ (.int .i32 jF)).cell? ⟨eb,3,none⟩=some (.slice ao n c):=(B0.o.setCell 2 (.int .i32 jF)).cell 3;have y3:=(B0.o.setCell 2 (.int .i32 jF)).frozen 3;go_simp;refine hK.o _ _ trivial (fun _=>?_);clear hK K;refine ai 15 17 (.pointer (some ⟨eb,0,none⟩)) trivial ?_;refine ai 16 18 (.pointer (some ⟨eb,5,none⟩)) trivial ?_;simp only[Act.put,Aa,Ad,Ac];refine bQ 17 fun K hK=>?_
 have x5:((w.setCell ⟨eb,2,none⟩ (.int .i32 jF)).setCell ⟨eb,3,none⟩ (.slice ao 0 c)).cell? ⟨eb,5,none⟩=some (.bool mt):=((B0.o.setCell 2 (.int .i32 jF)).setCell 3 (.slice ao 0 c)).cell 5;have y5:=((B0.o.setCell 2 (.int .i32 jF)).setCell 3 (.slice ao 0 c)).frozen 5;go_simp;refine hK.o _ _ trivial (fun _=>?_);clear hK K;refine At (by kernel_rfl) ?_ _
 have B3:Hid (aq ((((w.setCell ⟨eb,2,none⟩ (.int .i32 jF)).setCell ⟨eb,3,none⟩ (.slice ao 0 c)).setCell ⟨eb,5,none⟩ (.bool false)).drew) eb #[.int .i64 g.st,.pointer (some ⟨g.fb,0,none⟩),.int .i32 jF,.slice ao 0 c,sv,.bool false] 153):=by
  have:=((B0.o.setCell 2 (.int .i32 jF)).setCell 3 (.slice ao 0 c)).setCell 5 (.bool false);simp only[Aa,Ad,Ac]at this;exact this
 have K3:Hid (aa (fun i=>i=eb) w ((((w.setCell ⟨eb,2,none⟩ (.int .i32 jF)).setCell ⟨eb,3,none⟩ (.slice ao 0 c)).setCell ⟨eb,5,none⟩ (.bool false)).drew)):=((((aa.refl (fun i=>i=eb) w).setCell (p:=⟨eb,2,none⟩) (Or.inl rfl) _).setCell (p:=⟨eb,3,none⟩) (Or.inl rfl) _).setCell (p:=⟨eb,5,none⟩) (Or.inl rfl) _).drew;generalize((((w.setCell ⟨eb,2,none⟩ (.int .i32 jF)).setCell ⟨eb,3,none⟩ (.slice ao 0 c)).setCell ⟨eb,5,none⟩ (.bool false)).drew)=w3 at*
 have ax:Hid (pE w3 eb g jF false [] (.slice ao 0 c) sv/\cH (lh eb g (.slice ao n c) sv) (lh eb g (.slice ao 0 c) sv) w w3):=by
  have xN:(Value.slice ao 0 c).ownBlock=(Value.slice ao n c).ownBlock:=by cases ao<;>rfl
  have h:=HH.o;obtain⟨m,xs,hs⟩:=h.sp;have sS:=h.ls;rw[<-HN.o]at sS;refine⟨⟨B3.o,bY (WJ sS) K3.o (fun i hi hx=>(h.rm i (xN▸hi)).2 hx),⟨m,xs,bY hs K3.o (fun i hi hx=>(h.uZ i hi).2 hx)⟩,h.fA.kept K3.o (fun i hx=>⟨fun hy=>?_,by rw[hx];exact h.ae.2⟩),Ao _,fun t ht=>(by cases ht),h.ae,fun i hi=>h.rm i (xN▸hi),h.uZ,fun i hi=>h.yK i (xN▸hi)⟩,⟨K3.o.mono (fun i hx=>Or.inl hx),fun i hi=>Or.inl ?_⟩⟩
  ·have:=h.ae.1;omega
  ·unfold lh dG at hi⊢;rw[xN]at hi;exact hi
 clear x2 y2 x3 y3 x5 y5 c3 ak B3 K3 HH B0;go_wp2_with fail;go_end0;exact⟨rfl,_,ax.o.1,ax.o.2⟩
def N6(eb:Nat)(g:FG)(ah:Int)(lv sv:Value)(W:World):Prop:=(W.cell? ⟨eb,0,none⟩=some (.int .i64 g.st)/\W.cell? ⟨eb,1,none⟩=some (.pointer (some ⟨g.fb,0,none⟩)))/\W.cell? ⟨eb,2,none⟩=some (.int .i32 ah)/\W.cell? ⟨eb,3,none⟩=some lv/\W.cell? ⟨eb,4,none⟩=some sv
def Sh(eb:Nat)(g:FG)(lv:Value)(W:World):Prop:=W.cell? ⟨eb,3,none⟩=some lv/\W.cell? ⟨eb,0,none⟩=some (.int .i64 g.st)
structure CY(w:World)(eb:Nat)(g:FG)(ah:Int)(mt:Bool)(l:List bG)(lv sv:Value):Prop where
 aj:aq w eb #[.int .i64 g.st,.pointer (some ⟨g.fb,0,none⟩),.int .i32 ah,lv,sv,.bool mt] 153
 ls:w.ownsRow 0 256 2 lv l.length (eI l)
 sp:∃n xs,w.ownsRow 0 256 2 sv n xs
 fA:jc w g
 bJ:l.length<=g.ms.length+1
 aV:∀t∈l,0<=t.1/\t.1<g.ms.length
 ae:(eb≠g.fb/\eb≠g.sb/\eb≠g.bb)/\¬g.cM eb
 rm:∀i,lv.ownBlock=some i->((i≠g.fb/\i≠g.sb/\i≠g.bb)/\¬g.cM i)/\i≠eb
 uZ:∀i,sv.ownBlock=some i->((i≠g.fb/\i≠g.sb/\i≠g.bb)/\¬g.cM i)/\i≠eb
 yK:∀i,lv.ownBlock=some i->sv.ownBlock≠some i
theorem CY.cells(h:CY w eb g ah mt l lv sv)(k:aa af w W):N6 eb g ah lv sv W:=by
 have:=h.aj.kept k (fun hx=>hx);exact⟨⟨this.cell 0,this.cell 1⟩,this.cell 2,this.cell 3,this.cell 4⟩
theorem CY.aoz{w4:World}{next:List bG}(h:CY w eb g ah mt l lv sv)(dn:Bool)
 (hn:w4.ownsRow 0 256 2 nv next.length (eI next))(hI:jc w4 g)(hG:cH (dG g sv) (dG g nv) w w4)(hna:∀i,nv.ownBlock=some i->(i≠g.fb/\i≠g.sb/\i≠g.bb)/\¬g.cM i)(hf:next.length<=g.ms.length)(ht:∀t∈next,0<=t.1/\t.1<g.ms.length):
 aq w4 eb #[.int .i64 g.st,.pointer (some ⟨g.fb,0,none⟩),.int .i32 ah,lv,sv,.bool mt] 153/\
 ∀w5,aq w5 eb #[.int .i64 g.st,.pointer (some ⟨g.fb,0,none⟩),.int .i32 bh,nv,lv,.bool (mt||dn)] 153->aa (fun i=>i=eb) w4 w5->pE w5 eb g bh (mt||dn) next nv lv/\cH (lh eb g lv sv) (lh eb g nv lv) w w5:=by
 have az:¬dG g sv eb:=fun hx=>by
  rcases hx with hx|hx
  ·have:=h.ae.1;omega
  ·exact(h.uZ _ hx).2 rfl
 have b4:=h.aj.kept hG.kept az;have aw:=h.aj.lt
 have lQ:∀i,nv.ownBlock=some i->sv.ownBlock=some i\/w.heap.size<=i:=fun i hi=>by
  rcases hG.aj i (Or.inr hi)with(h1|h1)|h1
  ·have:=(hna i hi).1;omega
  ·exact Or.inl h1
  ·exact Or.inr h1
 have ajl:w4.ownsRow 0 256 2 lv l.length (eI l):=bY h.ls hG.kept (fun i hi hx=>by
  rcases hx with hx|hx
  ·have:=(h.rm i hi).1.1;omega
  ·exact h.yK i hi hx)
 refine⟨b4,fun w5 hB k5=>⟨⟨hB,bY hn k5 (fun i hi hx=>?_),⟨_,_,bY ajl k5 (fun i hi hx=>(h.rm i hi).2 hx)⟩,hI.kept k5 (fun i hx=>⟨fun hy=>?_,by rw[hx];exact h.ae.2⟩),hf,ht,h.ae,fun i hi=>⟨hna i hi,?_⟩,h.rm,fun i hi hx=>?_⟩,⟨?_,fun i hi=>?_⟩⟩⟩
 ·rcases lQ i hi with h1|h1
  ·exact(h.uZ i h1).2 hx
  ·omega
 ·have:=h.ae.1;omega
 ·rcases lQ i hi with h1|h1
  ·exact(h.uZ i h1).2
  ·omega
 ·rcases lQ i hi with h1|h1
  ·exact h.yK i hx h1
  ·have:=(dE h.ls hx).2;omega
 ·exact(hG.kept.mono (fun i hx=>by rcases hx with hx|hx;exact Or.inr (Or.inl (Or.inl hx));exact Or.inr (Or.inr hx))).trans (k5.mono (fun i hx=>Or.inl hx))
 ·rcases hi with hi|(hi|hi)|hi
  ·exact Or.inl (Or.inl hi)
  ·exact Or.inl (Or.inr (Or.inl (Or.inl hi)))
  ·rcases lQ i hi with h1|h1
   ·exact Or.inl (Or.inr (Or.inr h1))
   ·exact Or.inr h1
  ·exact Or.inl (Or.inr (Or.inl (Or.inr hi)))
theorem Lb(b j:Nat):(⟨b,0,none⟩:Addr).add j=⟨b,j,none⟩:=by unfold Addr.add;split<;>simp_all
def DU(n:Nat)(f:FS):Prop:=∀t∈f.next,0<=t.1/\t.1<n
theorem aoJ{m:MS}{st:Int}(h:DU n f)(hm:0<=m.next/\m.next<n):DU n (l7 m bh st f):=by
 unfold l7;split
 ·intro t ht;rcases Al.1 ht with ht|ht
  ·exact h t ht
  ·simp only[Bo]at ht;rw[ht];exact hm
 ·exact h
theorem T0(hg:eW ms)(ah bh:Int):∀(d:Nat) (u st:Int) (f:FS),DU ms.length f->DU ms.length (gw ms ah bh d u st f).1
 |0,_,_,_,h=>h
 |d+1,u,st,f,h=>by
  have IH:=T0 hg ah bh d;have hM:DU ms.length ⟨f.seen.set u.toNat true,f.dI,f.next⟩:=h;unfold gw;split
  ·exact h
  ·split
   ·exact h
   ·rename_i m hm
    obtain⟨_,g1,_,_⟩:=hg _ m hm;split
    ·exact h
    ·split
     ·rename_i k1
      exact aoJ hM (g1 k1)
     ·split
      ·split
       ·exact IH _ _ _ hM
       ·exact hM
      ·split
       ·exact IH _ _ _ hM
       ·split
        ·exact IH _ _ _ hM
        ·exact IH _ _ _ (IH _ _ _ hM)
theorem aeP(hg:eW ms)(ah bh:Int):∀(l:List bG) (f:FS),DU ms.length f->DU ms.length (iK ms ah bh l f).1
 | [],f,h=>h
 |t::ts,f,h=>by
  unfold iK;split
  ·exact T0 hg ah bh _ _ _ _ h
  ·exact aeP hg ah bh ts _ (T0 hg ah bh _ _ _ _ h)
theorem RJ(hg:eW ms)(ah bh:Int)(l:List bG):∀t∈ (aZ ms ah bh l).1,0<=t.1/\t.1<ms.length:=aeP hg ah bh l _ (fun t ht=>by cases ht)
def uz(g:FG)(p:Int)(mt:Bool)(l:List bG):List bG:=if mt then l else l++[(g.st,p)]
theorem aiD(hg:g.Ok)(bC:0<=g.st/\g.st<g.ms.length)(hb:0<=bh/\bh<=1114111)(h:pE w eb g ah mt l lv sv):
 Calls prog 227 #[.pointer (some ⟨eb,0,none⟩),.int .i64 p,.int .i32 bh] w fun e w'=>e=.returned (.tuple #[.int .i64 ((aZ g.ms ah bh (uz g p mt l)).2.getD 0),.bool (aZ g.ms ah bh (uz g p mt l)).2.isSome])/\∃de xF,pE w' eb g bh (mt||(aZ g.ms ah bh (uz g p mt l)).2.isSome) (aZ g.ms ah bh (uz g p mt l)).1 de xF/\cH (lh eb g lv sv) (lh eb g de xF) w w':=by
 have HH:=ab h;have HG:=ab hg;have lF:=ab bC;have c5:w.cell? ⟨eb,5,none⟩=some (.bool mt):=h.aj.cell 5;clear h hg bC;go_in;go_upto_if 13 with fail
 go_cut [6] (fun s6 wx=>s6=.int .i64 0/\∃vP,Hid (CY wx eb g ah mt (uz g p mt l) vP sv)/\Hid (cH (lh eb g lv sv) (lh eb g vP sv) w wx))
 case first=>
  cases mt with
  |true=>
   have h:=HH.o;have ax:Hid (CY w eb g ah true (uz g p true l) lv sv):=⟨h.aj,h.ls,h.sp,h.fA,Nat.le_succ_of_le h.bJ,h.aV,h.ae,h.rm,h.uZ,h.yK⟩;clear h HH HG lF;go_wp2_with fail;go_meet
   case rel=>exact⟨rfl,lv,ax,cH.refl _ _⟩
  |false=>
   obtain⟨ao,cn,Gw⟩:=cK HH.o.ls
   have Ov:Hid (∀W w7 de,aa af w W->w7.ownsRow 0 256 2 de (l.length+1) (eI l++[.int .i64 g.st,.int .i64 p])->W.grownBy w7 lv.ownBlock->(de.ownBlock=lv.ownBlock\/de.ownBlock=some W.heap.size)->Sh eb g lv w7/\w7.frozen? ⟨eb,3,none⟩=false/\CY (w7.setCell ⟨eb,3,none⟩ de) eb g ah false (uz g p false l) de sv/\cH (lh eb g lv sv) (lh eb g de sv) w (w7.setCell ⟨eb,3,none⟩ de)):=fun W w7 de k0 bt dN cB=>by
    have h:=HH.o;obtain⟨⟨q1,q2,q3⟩,⟨r1,r2,r3,r4,r5⟩,r6⟩:=h.NI lF.o k0 bt dN cB;refine⟨⟨q1,q2⟩,q3,⟨r1,r2,r3,r4,?_,fun t ht=>?_,h.ae,fun i hi=>⟨(r5 i hi).1,(r5 i hi).2.1⟩,h.uZ,fun i hi=>(r5 i hi).2.2⟩,r6⟩
    ·have:=h.bJ;show(l++[(g.st,p)]).length<=_
     rw[Aj];simp;omega
    ·rcases Al.1 (show t∈l++[(g.st,p)]from ht)with ht|ht
     ·exact h.aV t ht
     ·simp only[Bo]at ht;rw[ht];exact lF.o
   have S2:Hid (∀W,aa af w W->Sh eb g lv W):=fun W k=>by
    have:=HH.o.aj.kept k (fun hx=>hx);exact⟨this.cell 3,this.cell 0⟩
   have nX:Hid (∀W,aa af w W->W.ownsRow 0 256 2 lv l.length (eI l)):=(fun W k=>bY HH.o.ls k (fun i _ hx=>hx));have pg:l.length<=4001:=by have:=HH.o.bJ;have:=HG.o.bJ;omega
   obtain⟨i0,cS,dm,dp,c_⟩:=Bp Tryz.VY;subst Gw;clear HH HG lF;go_wp2_with fail;refine gW (S:=Sh eb g (.slice ao l.length cn)) 15 (by kernel_rfl) rfl rfl rfl (by kernel_rfl) (by kernel_rfl) ?_;have cx:=S2.o w.drew (aa.refl _ _).drew;refine ai 0 14 (.pointer (some ⟨eb,0,none⟩)) cx ?_;refine ai 1 15 (.pointer (some ⟨eb,0,none⟩)) cx ?_;refine ai 2 16 (.pointer (some ⟨eb,0,none⟩)) cx ?_;refine ai 3 17 (.pointer (some ⟨eb,3,none⟩)) cx ?_;refine ai 4 18 (.slice ao l.length cn) cx ?_;refine ai 5 19 (.pointer (some ⟨eb,0,none⟩)) cx ?_;refine ai 6 20 (.pointer (some ⟨eb,0,none⟩)) cx ?_;refine ai 7 21 (.pointer (some ⟨eb,0,none⟩)) cx ?_;refine ai 8 22 (.int .i64 g.st) cx ?_;refine ai 9 23 (.int .i64 p) cx ?_;refine ai 10 24 (.agg #[.int .i64 g.st,.int .i64 p]) cx ?_;simp only[Act.put,Aa,Ad,Ac];refine bQ 11 fun K hK=>?_
   go_simp;have kA:aa af w (w.alloc (.cells #[.int .i64 g.st,.int .i64 p] 256)).drew:=((aa.refl af w).alloc _).drew;refine hK.o _ _ (S2.o _ kA) (fun _=>?_);clear hK K;refine bQ 12 fun K hK=>?_
   refine RK rfl (.tmp 18) (.tmp 25) 151 rfl 0 256 i0 _ 2 16 underlying151 cS dm dp c_ rfl (by decide) _ _ _ rfl (nX.o _ kA) ⟨w.heap.size,0,none⟩ 1 1 [.int .i64 g.st,.int .i64 p] rfl rfl ?nw (RR _ _) (by unfold maxLen;omega) (by omega) (Ao _) ?_
   case nw=>
    intro j v hv;have hB:=aq.new w #[.int .i64 g.st,.int .i64 p] 256;rw[Lb];exact(hB.cell j).trans (by simpa using hv)
   intro v' w7 ho dN cB;obtain⟨jg,c',rfl⟩:=cK ho;obtain⟨s7,f7,p1,p2⟩:=Ov.o _ _ _ kA ho dN cB;refine hK.o _ _ s7 (fun vq=>?_);have c7:=vq.1;clear hK K;have P1:=ab p1;have P2:=ab p2;refine ai 13 27 (.pointer (some ⟨eb,0,none⟩)) vq ?_;refine ai 14 28 (.pointer (some ⟨eb,3,none⟩)) vq ?_;simp only[Act.put,Aa,Ad,Ac];refine At (by kernel_rfl) ?_ _;unfold eN;simp only[Ak,Ah,Ai];go_simp;go_wp2_with fail;go_meet
   case rel=>exact⟨rfl,_,P1,P2⟩
 case rest=>
  obtain⟨rfl,vP,HN,mL⟩:=hcut;clear HH c5;have SN:Hid (∀W,aa af wc W->N6 eb g ah vP sv W):=fun W k=>HN.o.cells k
  obtain⟨b1,a1,qp,mx,UC,Vr⟩:=pI.of HN.o.ls;obtain⟨n2,xs2,gg⟩:=HN.o.sp;have afv:Hid (uz g p mt l=uz g p mt l):=(rfl:_=_);generalize hL:uz g p mt l=L at*
  have F:Hid (∀W,aa af wc W->Calls prog 228 #[.pointer (some ⟨g.fb,0,none⟩),.slice a1 L.length qp,sv,.int .i32 ah,.int .i32 bh] W fun e w'=>∃nv,e=.returned (.tuple #[nv,.int .i64 ((aZ g.ms ah bh L).2.getD 0),.bool (aZ g.ms ah bh L).2.isSome])/\w'.ownsRow 0 256 2 nv (aZ g.ms ah bh L).1.length (eI (aZ g.ms ah bh L).1)/\jc w' g/\cH (dG g sv) (dG g nv) W w'/\(∀i,nv.ownBlock=some i->(i≠g.fb/\i≠g.sb/\i≠g.bb)/\¬g.cM i)/\(aZ g.ms ah bh L).1.length<=g.ms.length):=fun W k=>by
   have h:=HN.o;refine abk HG.o (h.fA.new k) hb (UC.kept k (fun _ hx=>hx)) (fun az hx=>?_) h.aV (by have:=h.bJ;have:=HG.o.bJ;omega) (bY gg k (fun _ _ hx=>hx)) (fun i hi=>(h.uZ i hi).1) (by have:=lF.o;omega);have kx:=Vr az;rcases hx with hx|hx
   ·have:=(h.rm _ kx).1.1;omega
   ·exact h.yK _ kx hx
  subst mx
  have Zw:Hid (∀W w4 nv,aa af wc W->w4.ownsRow 0 256 2 nv (aZ g.ms ah bh L).1.length (eI (aZ g.ms ah bh L).1)->jc w4 g->cH (dG g sv) (dG g nv) W w4->(∀i,nv.ownBlock=some i->(i≠g.fb/\i≠g.sb/\i≠g.bb)/\¬g.cM i)->(aZ g.ms ah bh L).1.length<=g.ms.length->aq w4 eb #[.int .i64 g.st,.pointer (some ⟨g.fb,0,none⟩),.int .i32 ah,.slice a1 L.length qp,sv,.bool mt] 153/\∀w5,aq w5 eb #[.int .i64 g.st,.pointer (some ⟨g.fb,0,none⟩),.int .i32 bh,nv,.slice a1 L.length qp,.bool (mt||(aZ g.ms ah bh L).2.isSome)] 153->aa (fun i=>i=eb) w4 w5->pE w5 eb g bh (mt||(aZ g.ms ah bh L).2.isSome) (aZ g.ms ah bh L).1 nv (.slice a1 L.length qp)/\cH (lh eb g lv sv) (lh eb g nv (.slice a1 L.length qp)) w w5):=fun W w4 nv k q1 q2 q3 q4 q5=>by
   have nL:cH (dG g sv) (dG g nv) wc w4:=(cH.of k (fun i hi=>Or.inl hi)).trans q3;obtain⟨r1,r2⟩:=HN.o.aoz (bh:=bh) (aZ g.ms ah bh L).2.isSome q1 q2 nL q4 q5 (RJ HG.o.fL ah bh L);exact⟨r1,fun w5 s1 s2=>⟨(r2 w5 s1 s2).1,mL.o.trans (r2 w5 s1 s2).2⟩⟩
  generalize IX:(aZ g.ms ah bh L).2.getD 0=d0 at*
  generalize LW:(aZ g.ms ah bh L).2.isSome=d1 at*
  obtain⟨IC,c2,nP⟩:=cK gg;subst nP;have HL:=ab hL;have HR1:=ab IX;have qh:=ab LW;clear UC Vr gg HN mL HG lF afv hL IX LW;go_wp2_with fail;refine j9 (Ch (by kernel_rfl) (Cc (S:=N6 eb g ah (.slice a1 L.length qp) (.slice IC n2 c2)) _ _ _ _ ?_));have ak:=SN.o wc.drew (aa.refl _ _).drew;refine ai 0 30 (.pointer (some ⟨eb,0,none⟩)) ak ?_;refine ai 1 31 (.pointer (some ⟨eb,0,none⟩)) ak ?_;refine ai 2 32 (.pointer (some ⟨eb,1,none⟩)) ak ?_;refine ai 3 33 (.pointer (some ⟨g.fb,0,none⟩)) ak ?_;refine ai 4 34 (.pointer (some ⟨eb,0,none⟩)) ak ?_;refine ai 5 35 (.pointer (some ⟨eb,0,none⟩)) ak ?_;refine ai 6 36 (.pointer (some ⟨eb,3,none⟩)) ak ?_;refine ai 7 37 (.slice a1 L.length qp) ak ?_;refine ai 8 38 (.pointer (some ⟨eb,0,none⟩)) ak ?_;refine ai 9 39 (.pointer (some ⟨eb,0,none⟩)) ak ?_;refine ai 10 40 (.pointer (some ⟨eb,4,none⟩)) ak ?_;refine ai 11 41 (.slice IC n2 c2) ak ?_;refine ai 12 42 (.pointer (some ⟨eb,0,none⟩)) ak ?_;refine ai 13 43 (.pointer (some ⟨eb,0,none⟩)) ak ?_;refine ai 14 44 (.pointer (some ⟨eb,2,none⟩)) ak ?_;refine ai 15 45 (.int .i32 ah) ak ?_;refine ai 16 46 (.int .i32 bh) ak ?_;simp only[Act.put,Aa,Ad,Ac];refine bQ 17 fun K hK=>?_
  go_simp;refine(F.o _ (aa.refl _ _).drew).mono ?_;rintro e w4 ⟨nv,rfl,q1,q2,q3,q4,q5⟩;dsimp only;obtain⟨b4,abZ⟩:=Zw.o _ w4 nv (aa.refl _ _).drew q1 q2 q3 q4 q5;have cx:N6 eb g ah (.slice a1 L.length qp) (.slice IC n2 c2) w4:=⟨⟨b4.cell 0,b4.cell 1⟩,b4.cell 2,b4.cell 3,b4.cell 4⟩;refine hK.o _ _ cx (fun _=>?_);clear hK K;obtain⟨fQ,c3,kX⟩:=cK q1;generalize(aZ g.ms ah bh L).1.length=n3 at kX;subst kX;have jP:=ab b4;have Y2:=ab abZ;clear b4 abZ q1 q2 q3 q4 q5 F Zw SN;refine ai 18 29 (.tuple #[.slice fQ n3 c3,.int .i64 d0,.bool d1]) cx ?_;refine ai 19 48 (.slice fQ n3 c3) cx ?_;refine ai 20 49 (.int .i64 d0) cx ?_;refine ai 21 50 (.bool d1) cx ?_;refine ai 22 8 (.slice fQ n3 c3) cx ?_;refine ai 23 6 (.int .i64 d0) cx ?_;refine ai 24 7 (.bool d1) cx ?_;simp only[Act.put,Aa,Ad,Ac];refine At (by kernel_rfl) ?_ _;refine jy ?_;have x2:w4.cell? ⟨eb,2,none⟩=some (.int .i32 ah):=jP.o.cell 2;have x3:w4.cell? ⟨eb,3,none⟩=some (.slice a1 L.length qp):=jP.o.cell 3;have x4:w4.cell? ⟨eb,4,none⟩=some (.slice IC n2 c2):=jP.o.cell 4;have x5:w4.cell? ⟨eb,5,none⟩=some (.bool mt):=jP.o.cell 5;have y2:=jP.o.frozen 2;have y3:=jP.o.frozen 3;have y4:=jP.o.frozen 4;have y5:=jP.o.frozen 5
  have ax:Hid (∀d2,d2=(mt||d1)->pE ((((w4.setCell ⟨eb,3,none⟩ (.slice fQ n3 c3)).setCell ⟨eb,4,none⟩ (.slice a1 L.length qp)).setCell ⟨eb,2,none⟩ (.int .i32 bh)).setCell ⟨eb,5,none⟩ (.bool d2)) eb g bh (mt||d1) (aZ g.ms ah bh L).1 (.slice fQ n3 c3) (.slice a1 L.length qp)/\cH (lh eb g lv (.slice IC n2 c2)) (lh eb g (.slice fQ n3 c3) (.slice a1 L.length qp)) w ((((w4.setCell ⟨eb,3,none⟩ (.slice fQ n3 c3)).setCell ⟨eb,4,none⟩ (.slice a1 L.length qp)).setCell ⟨eb,2,none⟩ (.int .i32 bh)).setCell ⟨eb,5,none⟩ (.bool d2))):=fun d2 hd=>by
   subst hd;refine Y2.o _ ?_ (((((aa.refl (fun i=>i=eb) w4).setCell (p:=⟨eb,3,none⟩) (Or.inl rfl) _).setCell (p:=⟨eb,4,none⟩) (Or.inl rfl) _).setCell (p:=⟨eb,2,none⟩) (Or.inl rfl) _).setCell (p:=⟨eb,5,none⟩) (Or.inl rfl) _);have:=(((jP.o.setCell 3 (.slice fQ n3 c3)).setCell 4 (.slice a1 L.length qp)).setCell 2 (.int .i32 bh)).setCell 5 (.bool (mt||d1));simp only[Aa,Ad,Ac]at this;exact this
  clear jP Y2 ak cx
  cases mt
  all_goals
   go_wp2_with fail
   exact Bi (v:=.tuple #[.int .i64 d0,.bool d1]) (by simp[results,results227,go_sem]) rfl ⟨by rw[HL.o,HR1.o,qh.o],.slice fQ n3 c3,.slice a1 L.length qp,by rw[HL.o,qh.o];first|exact ax.o d1 (by simp)|exact ax.o true (by simp)⟩
