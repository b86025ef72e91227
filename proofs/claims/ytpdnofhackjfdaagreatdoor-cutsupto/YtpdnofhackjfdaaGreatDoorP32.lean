/- Package threads' Follower in memory -/
import Derived.Test.YtpdnofhackjfdaaGreatDoorP31
set_option linter.all false
set_option maxRecDepth 100000
set_option maxHeartbeats 8000000
namespace Go.Proofs.YtpdnofhackjfdaaGreatDoor
open Go.Proofs.Tryz
open Go.RowKit Go.Maps
variable {mt:Bool} {g:FG} {f:FS} {ah bh p:Int} {ms:List MS} {l:List bF} {xs:List Value} {base eb n:Nat} {K:Nat->Prop} {lv nv sv:Value} {W w w':World}
theorem afo{P:Program}{ops:Array Oper}{rest:List Oper}{o:Oper}{a:Act}{Q:Exit->Act->World->Prop}(gQ:o.guard=none)(d:Operand)(dT:TypeId)
 (ho:o.op=.call {callee:=.builtin .clear,args:=#[d],argTypes:=#[dT]})(elem:TypeId)(hu:P.underlying dT=some (.slice elem))(hz:(zeroValue elem).run P w=.ok (.bool false) w)
 (g n c:Nat)(hd:a.eval d=.slice (some ⟨g,0,none⟩) n c)(hn:n≠0)
 (bs:List Bool)(t:TypeId)(hg:aq w g (kJ bs).toArray t)(tV:bs.length=n)
 (h:∀w',aq w' g (kJ (List.replicate n false)).toArray t->aa (fun i=>i=g) w w'->wpList P ops Q rest (a.put o.dst (.tuple #[])) w'):wpList P ops Q (o::rest) a w:=by
 refine wpList_plain gQ fun K hK=>?_
 have h:=h _ (setRow_heap w g _ _ t _ hg) (aa.row g _);have gz:(kJ bs).length=n:=by unfold kJ;simp[tV]
 have bt:=run_storeCells_at P g 0 t (List.replicate n (.bool false)) 0 _ w hg (by simp[gz]) (by intro v hv;rw[Dy hv];rfl)
 have sX:(Builtin.clear_ #[dT] o.type #[.slice (some ⟨g,0,none⟩) n c]).run P w=.ok (.tuple #[]) (w.setRow g (kJ (List.replicate n false)).toArray):=by
  obtain⟨m,rfl⟩:∃m,n=m+1:=⟨n-1,by omega⟩
  have e2:kJ (List.replicate (m+1) false)=List.replicate (m+1) (.bool false):=by simp[kJ]
  simp only[Builtin.clear_,go_sem];simp[Ga hu,hz,afr,bt];have e3:List.drop (m+1) (kJ bs)=[]:=Fb (by omega);rw[e2,e3];simp
 unfold Oper.wp;simp[execOp,ho,resolve,invoke,builtin,hd,sX,Result.andThen];exact hK _ _ h
theorem Ws{e size c:Nat}{ao:Option Addr}(h:w.ownsRow base e size (.slice ao n c) n xs):w.ownsRow base e size (.slice ao 0 c) 0 []:=by
 refine⟨by simp,?_⟩;rcases h.2 with⟨h2,h3⟩|⟨g,cap,aL,h3,h4,h5,h6,h7,h8,h9⟩
 ·cases h2;exact Or.inl ⟨rfl,rfl⟩
 ·cases h3;exact Or.inr ⟨g,c,aL,rfl,h4,h5,Am _,h7,h8,by simp⟩
structure pD(w:World)(b:Nat)(a:Option Addr)(l:List bF):Prop where
 at_:l≠ []->a=some ⟨b,0,none⟩/\b<w.heap.size
 cells:∀k,(h:k<l.length)->w.cell? ⟨b,k*2,none⟩=some (.int .i64 (l[k]).1)/\w.cell? ⟨b,k*2+1,none⟩=some (.int .i64 (l[k]).2)
theorem pD.kept{b:Nat}{a:Option Addr}(h:pD w b a l)(k:aa K w w')(hK:l≠ []->¬K b):pD w' b a l:=
 ⟨fun hl=>⟨(h.at_ hl).1,Ar (h.at_ hl).2 k.size⟩,fun i hi=>by
   have az:l≠ []:=by intro e;subst e;simp at hi
   exact⟨(k.cell (p:=⟨b,i*2,none⟩) (h.at_ az).2 (hK az)).trans (h.cells i hi).1,(k.cell (p:=⟨b,i*2+1,none⟩) (h.at_ az).2 (hK az)).trans (h.cells i hi).2⟩⟩
theorem RD{k:Nat}(h:k<l.length):(eF l)[k*2]? =some (.int .i64 (l[k]).1)/\(eF l)[k*2+1]? =some (.int .i64 (l[k]).2):=by
 induction l generalizing k with
 |nil=>simp at h
 |cons t ts ih=>
  have e:eF (t::ts)=.int .i64 t.1::.int .i64 t.2::eF ts:=rfl;rw[e]
  cases k with
  |zero=>exact⟨rfl,rfl⟩
  |succ k=>
   have:=ih (k:=k) (by simpa using h);rw[show(k+1)*2=k*2+1+1 by omega,show k*2+1+1+1=(k*2+1)+1+1 by omega];simp only[D3,Ag];exact this
theorem pD.of{v:Value}(h:w.ownsRow base 256 2 v l.length (eF l)):∃b a c,v=.slice a l.length c/\pD w b a l/\(l≠ []->v.ownBlock=some b):=by
 rcases h.2 with⟨h2,h3⟩|⟨g,cap,aL,h3,h4,h5,h6,h7,h8,h9⟩
 ·have:l=[]:=Aw.1 h3;subst this;exact⟨0,none,0,h2,⟨fun hx=>absurd rfl hx,fun k hk=>by simp at hk⟩,fun hx=>absurd rfl hx⟩
 ·refine⟨g,some ⟨g,0,none⟩,cap,h3,⟨fun _=>⟨rfl,(Ak.1 h5).1⟩,fun k hk=>?_⟩,fun _=>by rw[h3];rfl⟩
  have hc:∀i,i<l.length*2->w.cell? ⟨g,i,none⟩=(eF l)[i]? :=fun i hi=>by
   rw[<-h9,Av hi];simp only[World.cell?,h5];simp
  exact⟨(hc _ (by omega)).trans (RD hk).1,(hc _ (by omega)).trans (RD hk).2⟩
structure iZ(w:World)(g:FG):Prop where
 ex:∃(ah bh:Int) (nv:Value) (s1 b1:List Bool),aq w g.fb #[g.mv,.int .i64 g.st,.int .i64 g.G,.int .i32 ah,.int .i32 bh,.slice (some ⟨g.sb,0,none⟩) g.ms.length g.ms.length,.slice (some ⟨g.bb,0,none⟩) g.ms.length g.ms.length,nv] 183/\(aq w g.sb (kJ s1).toArray 4/\s1.length=g.ms.length)/\(aq w g.bb (kJ b1).toArray 4/\b1.length=g.ms.length)
 ma:jb w g.lo g.hi g.mb g.c g.vs g.ms
theorem gu.fu(h:gu w g ah bh nv f):iZ w g:=⟨⟨ah,bh,nv,f.seen,f.dF,h.ak,⟨h.sn,h.sz.1⟩,⟨h.bg,h.sz.2⟩⟩,h.ma⟩
theorem iZ.kept(h:iZ w g)(k:aa K w w')(hK:∀i,K i->¬(i=g.fb\/i=g.sb\/i=g.bb)/\¬g.cI i):iZ w' g:=by
 obtain⟨ah,bh,nv,s1,b1,h1,⟨h2,h3⟩,⟨h4,h5⟩⟩:=h.ex;exact⟨⟨ah,bh,nv,s1,b1,h1.kept k (fun hx=>(hK _ hx).1 (Or.inl rfl)),⟨h2.kept k (fun hx=>(hK _ hx).1 (Or.inr (Or.inl rfl))),h3⟩,⟨h4.kept k (fun hx=>(hK _ hx).1 (Or.inr (Or.inr rfl))),h5⟩⟩,h.ma.Jj k (fun i hx=>(hK i hx).2)⟩
theorem iZ.new(h:iZ w g)(k:aa af w w'):iZ w' g:=h.kept k (fun _ hx=>hx.elim)
structure SU(w wr:World)(g:FG)(ah bh:Int)(iv nv:Value)(l:List bF)(k:Nat)(f:FS):Prop where
 fl:gu wr g ah bh nv f
 dD:cF (dC g iv) (dC g nv) w wr
 eq:iW g.ms ah bh l (FS.new g.ms.length)=iW g.ms ah bh (l.drop k) f
theorem abo{iv:Value}{lb lc:Nat}{la:Option Addr}(hg:g.Ok)(hI:iZ w g)(hb:0<=bh/\bh<=1114111)(hl:pD w lb la l)(ua:l≠ []->¬dC g iv lb)(Qo:∀t∈l,0<=t.1/\t.1<g.ms.length)(cT:l.length<=10000)(hv:w.ownsRow 0 256 2 iv n xs)(PL:∀i,iv.ownBlock=some i->(i≠g.fb/\i≠g.sb/\i≠g.bb)/\¬g.cI i)(xc:g.ms.length≠0):
 Calls prog 228 #[.pointer (some ⟨g.fb,0,none⟩),.slice la l.length lc,iv,.int .i32 ah,.int .i32 bh] w fun e w'=>∃nv,e=.returned (.tuple #[nv,.int .i64 ((aZ g.ms ah bh l).2.getD 0),.bool (aZ g.ms ah bh l).2.isSome])/\w'.ownsRow 0 256 2 nv (aZ g.ms ah bh l).1.length (eF (aZ g.ms ah bh l).1)/\iZ w' g/\cF (dC g iv) (dC g nv) w w'/\(∀i,nv.ownBlock=some i->(i≠g.fb/\i≠g.sb/\i≠g.bb)/\¬g.cI i)/\(aZ g.ms ah bh l).1.length<=g.ms.length:=by
 obtain⟨ah0,ng,nv0,s1,b1,hB,⟨hS,cR⟩,⟨zZ,jD⟩⟩:=hI.ex;obtain⟨ao,cv,rfl⟩:=cA hv;have c5:w.cell? ⟨g.fb,5,none⟩=some (.slice (some ⟨g.sb,0,none⟩) g.ms.length g.ms.length):=hB.cell 5;have HG:=ab hg;have HB:=ab hB;have HS:=ab hS;have xP:=ab zZ;have HV:=ab hv;have Yz:=ab PL;have HL:=ab hl;have Ss:=ab hI.ma;clear hg hI hl hv PL hB hS zZ;go_in;go_wp2_with (refine afo rfl (.tmp 18) 181 rfl 4 underlying181 ?z g.sb g.ms.length g.ms.length rfl xc s1 4 HS.out cR ?_)
 case z=>exact zeroValue4 _
 intro w1 abt aT;have c6:w1.cell? ⟨g.fb,6,none⟩=some (.slice (some ⟨g.bb,0,none⟩) g.ms.length g.ms.length):=(HB.out.kept aT (fun hx=>HG.out.ap.1 hx)).cell 6;have Ya:=ab (xP.out.kept aT (fun hx=>HG.out.ap.2.2 hx.symm));have uN:=ab abt;have Ht:=ab aT;clear abt aT c5;go_wp2_with (refine afo rfl (.tmp 22) 181 rfl 4 underlying181 ?z g.bb g.ms.length g.ms.length rfl xc b1 4 Ya.out jD ?_)
 case z=>exact zeroValue4 _
 intro w2 od aO;have jA:=ab ((HB.out.kept Ht.out (fun hx=>HG.out.ap.1 hx)).kept aO (fun hx=>HG.out.ap.2.1 hx));have gX:=ab (uN.out.kept aO (fun hx=>HG.out.ap.2.2 hx));have Yb:=ab od;have mE:Hid (aa (fun i=>i=g.sb\/i=g.bb) w w2):=(Ht.out.mono (fun i hx=>Or.inl hx)).trans (aO.mono (fun i hx=>Or.inr hx));clear od aO c6 uN Ya Ht HB HS xP;go_wp2_with fail;have hS:∀W:World,(fun _:World=>True) W:=fun _=>trivial
 have x3:=jA.out.cell 3;have x4:=jA.out.cell 4;have x7:=jA.out.cell 7;have y3:=jA.out.frozen 3;have y4:=jA.out.frozen 4;have y7:=jA.out.frozen 7;refine jW (Cf (by kernel_rfl) (Cd (S:=fun _=>True) _ _ _ _ ?_));refine ai 0 23 (.pointer (some ⟨g.fb,0,none⟩)) trivial ?_;refine ai 1 24 (.pointer (some ⟨g.fb,0,none⟩)) trivial ?_;refine ai 2 25 (.pointer (some ⟨g.fb,0,none⟩)) trivial ?_;refine ai 3 26 (.int .i32 ah) trivial ?_;refine ai 4 27 (.int .i32 bh) trivial ?_;refine ai 5 28 (.slice ao n cv) trivial ?_;refine ai 6 29 (.slice ao 0 cv) trivial ?_;refine ai 7 30 (.pointer (some ⟨g.fb,0,none⟩)) trivial ?_;refine ai 8 31 (.pointer (some ⟨g.fb,3,none⟩)) trivial ?_;simp only[Act.put,Aa,Ad,Ac];refine bN 9 fun K hK=>?_
 go_simp;refine hK.out _ _ trivial (fun _=>?_);clear hK K;refine ai 10 32 (.pointer (some ⟨g.fb,0,none⟩)) trivial ?_;refine ai 11 33 (.pointer (some ⟨g.fb,4,none⟩)) trivial ?_;simp only[Act.put,Aa,Ad,Ac];refine bN 12 fun K hK=>?_
 have x4':(w2.setCell ⟨g.fb,3,none⟩ (.int .i32 ah)).cell? ⟨g.fb,4,none⟩=some (.int .i32 ng):=((jA.out.setCell 3 (.int .i32 ah)).cell 4);have y4':=(jA.out.setCell 3 (.int .i32 ah)).frozen 4;go_simp;refine hK.out _ _ trivial (fun _=>?_);clear hK K;refine ai 13 34 (.pointer (some ⟨g.fb,0,none⟩)) trivial ?_;refine ai 14 35 (.pointer (some ⟨g.fb,7,none⟩)) trivial ?_;simp only[Act.put,Aa,Ad,Ac];refine bN 15 fun K hK=>?_
 have x7':((w2.setCell ⟨g.fb,3,none⟩ (.int .i32 ah)).setCell ⟨g.fb,4,none⟩ (.int .i32 bh)).cell? ⟨g.fb,7,none⟩=some nv0:=(((jA.out.setCell 3 (.int .i32 ah)).setCell 4 (.int .i32 bh)).cell 7);have y7':=((jA.out.setCell 3 (.int .i32 ah)).setCell 4 (.int .i32 bh)).frozen 7;go_simp;refine hK.out _ _ trivial (fun _=>?_);clear hK K;refine At (by kernel_rfl) ?_ _;refine jw ?_
 have uH:Hid (aq (((w2.setCell ⟨g.fb,3,none⟩ (.int .i32 ah)).setCell ⟨g.fb,4,none⟩ (.int .i32 bh)).setCell ⟨g.fb,7,none⟩ (.slice ao 0 cv)).drew g.fb #[g.mv,.int .i64 g.st,.int .i64 g.G,.int .i32 ah,.int .i32 bh,.slice (some ⟨g.sb,0,none⟩) g.ms.length g.ms.length,.slice (some ⟨g.bb,0,none⟩) g.ms.length g.ms.length,.slice ao 0 cv] 183):=by
  have:=((jA.out.setCell 3 (.int .i32 ah)).setCell 4 (.int .i32 bh)).setCell 7 (.slice ao 0 cv);simp only[Aa,Ad,Ac]at this;exact this
 have iO:Hid (aa (fun i=>i=g.fb) w2 (((w2.setCell ⟨g.fb,3,none⟩ (.int .i32 ah)).setCell ⟨g.fb,4,none⟩ (.int .i32 bh)).setCell ⟨g.fb,7,none⟩ (.slice ao 0 cv)).drew):=((((aa.refl (fun i=>i=g.fb) w2).setCell (p:=⟨g.fb,3,none⟩) (Or.inl rfl) _).setCell (p:=⟨g.fb,4,none⟩) (Or.inl rfl) _).setCell (p:=⟨g.fb,7,none⟩) (Or.inl rfl) _).drew;generalize(((w2.setCell ⟨g.fb,3,none⟩ (.int .i32 ah)).setCell ⟨g.fb,4,none⟩ (.int .i32 bh)).setCell ⟨g.fb,7,none⟩ (.slice ao 0 cv)).drew=w3 at*;have K3:Hid (aa (fun i=>i=g.fb\/i=g.sb\/i=g.bb) w w3):=(mE.out.mono (fun i hx=>Or.inr hx)).trans (iO.out.mono (fun i hx=>Or.inl hx));have xL:(Value.slice ao 0 cv).ownBlock=(Value.slice ao n cv).ownBlock:=by cases ao<;>rfl
 have HF:Hid (gu w3 g ah bh (.slice ao 0 cv) (FS.new g.ms.length)):=
  ⟨uH.out,gX.out.kept iO.out (fun hx=>HG.out.ap.1 hx.symm),Yb.out.kept iO.out (fun hx=>HG.out.ap.2.1 hx.symm),bR (Ws HV.out) K3.out (fun i hi hx=>by
    have:=(Yz.out i (xL▸hi)).1;omega),⟨by simp[FS.new],by simp[FS.new]⟩,by simp[pB,FS.new,List.countP_replicate],fun i hi=>Yz.out i (xL▸hi),Ss.out.Jj K3.out (fun i hx=>by
    rcases hx with rfl|rfl|rfl
    ·exact HG.out.am.1
    ·exact HG.out.am.2.1
    ·exact HG.out.am.2.2)⟩
 have dr:Hid (SU w w3 g ah bh (.slice ao n cv) (.slice ao 0 cv) l 0 (FS.new g.ms.length)):=⟨HF.out,⟨K3.out.mono (fun i hx=>Or.inl hx),fun i hi=>Or.inl (by unfold dC at hi⊢;rw[xL]at hi;exact hi)⟩,rfl⟩;clear xL x3 x4 x7 y3 y4 y7 x4' y4' x7' y7' jA uH iO mE gX Yb hS;go_wp2_with fail;go_loopg [38] l.length (fun kk v wr=>∃(k:Nat) (nv:Value) (f:FS),v=.int .i64 (k:Int)/\k<=l.length/\kk=l.length-k/\Hid (SU w wr g ah bh (.slice ao n cv) nv l k f))
 case atStart=>exact⟨0,_,_,rfl,Am _,rfl,dr⟩
 case round=>
  obtain⟨k,nv,f,rfl,hk,eT,HI⟩:=hrel;clear dr;by_cases aw:k<l.length
  ·have jH:(k:Int)<(l.length:Int):=(by omega);have az:l≠ []:=by intro e;subst e;simp at aw
   obtain⟨IY,apN⟩:=HL.out.at_ az;subst IY;have uc:¬dC g (.slice ao n cv) lb:=ua az;have yz:=HI.out.dD.kept;have hc:=(HL.out.kept yz (fun _=>uc)).cells k aw;obtain⟨z1,z2⟩:=hc;have ht:=Qo _ (A5 aw);have vC:l.drop k=l[k]::l.drop (k+1):=Bu aw;obtain⟨tu,uf⟩:∃tu:Nat,(l[k]).1=(tu:Int):=⟨(l[k]).1.toNat,by omega⟩
   rw[uf]at z1;have Sg:=ab vC;have SA:=ab uf;obtain⟨ts,qH⟩:∃ts,(l[k]).2=ts:=⟨_,rfl⟩
   rw[qH]at z2;have Sz:=ab qH;have Vt:tu<g.ms.length:=(by omega);clear yz vC uf qH ht;have F:=(ab fun(W:World) (h:aa af wr W)=>ah3 (st:=ts) HG.out hb tu Vt W nv f (HI.out.fl.new h));go_wp2_with fail;have kA:aa af wr (wr.alloc (.cells #[.int .i64 (tu:Int),.int .i64 ts] 256)):=(aa.refl af wr).alloc _;have T8:=aq.new wr #[.int .i64 (tu:Int),.int .i64 ts] 256;refine(F.out _ kA).mono ?_;rintro e w4 ⟨rfl,dZ,h4,g4⟩;have T9:=T8.kept g4.kept (fun hx=>by have:=HI.out.fl.lt hx;omega);have z3:w4.cell? ⟨wr.heap.size,1,none⟩=some (.int .i64 ts):=T9.cell 1
   have e4:iW g.ms ah bh (l.drop k) f=if(fK g.ms ah bh (tu:Int) ts f).2 then((fK g.ms ah bh (tu:Int) ts f).1,some ts)else iW g.ms ah bh (l.drop (k+1)) (fK g.ms ah bh (tu:Int) ts f).1:=by
    rw[Sg.out];conv=>lhs;unfold iW
    rw[SA.out,Sz.out];rfl
   have GO:cF (dC g (.slice ao n cv)) (dC g dZ) w w4:=(HI.out.dD.new kA).trans g4;have c7:w4.cell? ⟨g.fb,7,none⟩=some dZ:=h4.ak.cell 7
   cases hr:(fK g.ms ah bh (tu:Int) ts f).2 with
   |true=>
    have ax:Hid (((aZ g.ms ah bh l).2=some ts)/\w4.ownsRow 0 256 2 dZ (aZ g.ms ah bh l).1.length (eF (aZ g.ms ah bh l).1)/\iZ w4 g/\cF (dC g (.slice ao n cv)) (dC g dZ) w w4/\(∀i,dZ.ownBlock=some i->(i≠g.fb/\i≠g.sb/\i≠g.bb)/\¬g.cI i)/\(aZ g.ms ah bh l).1.length<=g.ms.length):=by
     have e5:=HI.out.eq.trans e4;rw[hr,if_pos rfl]at e5;unfold aZ;rw[e5];exact⟨rfl,h4.nx,h4.fu,GO,h4.an,by have:=h4.fw;unfold pB at this;show(fK g.ms ah bh (tu:Int) ts f).1.next.length<=_;omega⟩
    clear e4 GO h4 g4 T8 T9 F HI Sg SA Sz hr;go_wp2_with fail;go_big_quiet (fail);go_wp2_with fail;have kq:aa af w4 (w4.drewN nq):=(aa.refl af w4).drewN nq;exact Bj (v:=.tuple #[dZ,.int .i64 ts,.bool true]) (by simp[results,results228,go_sem]) rfl ⟨dZ,by rw[ax.out.1];rfl,bR ax.out.2.1 kq (fun _ _ hx=>hx),ax.out.2.2.1.new kq,ax.out.2.2.2.1.new kq,ax.out.2.2.2.2⟩
   |false=>
    have ax:Hid (SU w w4 g ah bh (.slice ao n cv) dZ l (k+1) (fK g.ms ah bh (tu:Int) ts f).1):=⟨h4,GO,by
     have e5:=HI.out.eq.trans e4;rw[hr,if_neg (by simp)]at e5;exact e5⟩
    clear e4 GO h4 g4 T8 T9 F HI Sg SA Sz hr c7 z3;go_wp2_with fail;go_roundg (l.length-(k+1))
    case measure=>omega
    case rel=>exact⟨k+1,dZ,_,by simp,by omega,rfl,ax⟩
  ·have jH:¬(k:Int)<(l.length:Int):=(by omega);have c7:wr.cell? ⟨g.fb,7,none⟩=some nv:=HI.out.fl.ak.cell 7
   have ax:Hid (((aZ g.ms ah bh l).2=none)/\wr.ownsRow 0 256 2 nv (aZ g.ms ah bh l).1.length (eF (aZ g.ms ah bh l).1)/\iZ wr g/\cF (dC g (.slice ao n cv)) (dC g nv) w wr/\(∀i,nv.ownBlock=some i->(i≠g.fb/\i≠g.sb/\i≠g.bb)/\¬g.cI i)/\(aZ g.ms ah bh l).1.length<=g.ms.length):=by
    have e5:=HI.out.eq;rw[Fb (by omega)]at e5;unfold aZ;rw[e5];exact⟨rfl,HI.out.fl.nx,HI.out.fl.fu,HI.out.dD,HI.out.fl.an,by have:=HI.out.fl.fw;unfold pB at this;show f.next.length<=_;omega⟩
   clear HI;go_wp2_with fail;exact Bj (v:=.tuple #[nv,.int .i64 0,.bool false]) (by simp[results,results228,go_sem]) rfl ⟨nv,by rw[ax.out.1];rfl,ax.out.2⟩
def k_(eb:Nat)(g:FG)(lv sv:Value)(i:Nat):Prop:=i=eb\/dC g lv i\/sv.ownBlock=some i
structure py(w:World)(eb:Nat)(g:FG)(ah:Int)(mt:Bool)(l:List bF)(lv sv:Value):Prop where
 ak:aq w eb #[.int .i64 g.st,.pointer (some ⟨g.fb,0,none⟩),.int .i32 ah,lv,sv,.bool mt] 153
 ls:w.ownsRow 0 256 2 lv l.length (eF l)
 sp:∃n xs,w.ownsRow 0 256 2 sv n xs
 fu:iZ w g
 bT:l.length<=g.ms.length
 aU:∀t∈l,0<=t.1/\t.1<g.ms.length
 ae:(eb≠g.fb/\eb≠g.sb/\eb≠g.bb)/\¬g.cI eb
 ri:∀i,lv.ownBlock=some i->((i≠g.fb/\i≠g.sb/\i≠g.bb)/\¬g.cI i)/\i≠eb
 u5:∀i,sv.ownBlock=some i->((i≠g.fb/\i≠g.sb/\i≠g.bb)/\¬g.cI i)/\i≠eb
 yK:∀i,lv.ownBlock=some i->sv.ownBlock≠some i
theorem py.kept(h:py w eb g ah mt l lv sv)(k:aa K w w')(hK:∀i,K i->¬k_ eb g lv sv i/\¬g.cI i):py w' eb g ah mt l lv sv:=by
 obtain⟨n,xs,hs⟩:=h.sp;exact⟨h.ak.kept k (fun hx=>(hK _ hx).1 (Or.inl rfl)),bR h.ls k (fun i hi hx=>(hK _ hx).1 (Or.inr (Or.inl (Or.inr hi)))),⟨n,xs,bR hs k (fun i hi hx=>(hK _ hx).1 (Or.inr (Or.inr hi)))⟩,h.fu.kept k (fun i hx=>⟨fun hy=>(hK _ hx).1 (Or.inr (Or.inl (Or.inl hy))),(hK _ hx).2⟩),h.bT,h.aU,h.ae,h.ri,h.u5,h.yK⟩
theorem py.Nx{w7:World}{dc:Value}(bt:0<=g.st/\g.st<g.ms.length)(h:py w eb g ah mt l lv sv)(k0:aa af w W)(bk:w7.ownsRow 0 256 2 dc (l.length+1) (eF l++[.int .i64 g.st,.int .i64 p]))(dK:W.grownBy w7 lv.ownBlock)(cx:dc.ownBlock=lv.ownBlock\/dc.ownBlock=some W.heap.size):
 (w7.cell? ⟨eb,3,none⟩=some lv/\w7.cell? ⟨eb,0,none⟩=some (.int .i64 g.st)/\w7.frozen? ⟨eb,3,none⟩=false)/\
 (aq (w7.setCell ⟨eb,3,none⟩ dc) eb #[.int .i64 g.st,.pointer (some ⟨g.fb,0,none⟩),.int .i32 ah,dc,sv,.bool mt] 153/\(w7.setCell ⟨eb,3,none⟩ dc).ownsRow 0 256 2 dc (l++[(g.st,p)]).length (eF (l++[(g.st,p)]))/\(∃n xs,(w7.setCell ⟨eb,3,none⟩ dc).ownsRow 0 256 2 sv n xs)/\iZ (w7.setCell ⟨eb,3,none⟩ dc) g/\(∀i,dc.ownBlock=some i->((i≠g.fb/\i≠g.sb/\i≠g.bb)/\¬g.cI i)/\i≠eb/\sv.ownBlock≠some i))/\cF (k_ eb g lv sv) (k_ eb g dc sv) w (w7.setCell ⟨eb,3,none⟩ dc):=by
 have k7:aa (fun i=>lv.ownBlock=some i) w w7:=(k0.mono (fun i hx=>hx.elim)).eN dK (fun j hj=>Or.inl hj);have kf:aa (fun i=>i=eb) w7 (w7.setCell ⟨eb,3,none⟩ dc):=(aa.refl (fun i=>i=eb) w7).setCell (p:=⟨eb,3,none⟩) (Or.inl rfl) _;have b7:=h.ak.kept k7 (fun hx=>(h.ri _ hx).2 rfl);have I7:w.heap.size<=W.heap.size:=k0.size;obtain⟨n,xs,hs⟩:=h.sp
 have lM:∀i,dc.ownBlock=some i->lv.ownBlock=some i\/w.heap.size<=i:=fun i hi=>by
  rcases cx with hl|hl
  ·exact Or.inl (hl▸hi)
  ·rw[hl]at hi;cases hi;right;exact I7
 obtain⟨_,_,_,s1,b1,hB,⟨hS,_⟩,⟨zZ,_⟩⟩:=h.fu.ex
 have Mc:∀i,dc.ownBlock=some i->((i≠g.fb/\i≠g.sb/\i≠g.bb)/\¬g.cI i)/\i≠eb/\sv.ownBlock≠some i:=fun i hi=>by
  rcases lM i hi with h1|h1
  ·exact⟨(h.ri i h1).1,(h.ri i h1).2,h.yK i h1⟩
  ·have f1:=hB.lt;have f2:=hS.lt;have f3:=zZ.lt;have f4:=h.ak.lt;refine⟨⟨⟨by omega,by omega,by omega⟩,fun hx=>?_⟩,by omega,fun hx=>?_⟩
   ·have m1:=h.fu.ma.ic.lt;have m2:=h.fu.ma.le;have m3:=h.fu.ma.jK.lt;rcases hx with(hx|hx)|(hx|hx)<;>omega
   ·have:=(dw hs hx).2;omega
 refine⟨⟨b7.cell 3,b7.cell 0,b7.frozen 3⟩,⟨?_,?_,⟨n,xs,?_⟩,?_,Mc⟩,⟨?_,fun i hi=>?_⟩⟩
 ·have:=b7.setCell 3 dc;simpa using this
 ·rw[Aj,Xv];exact bR bk kf (fun i hi hx=>(Mc i hi).2.1 hx)
 ·exact bR (bR hs k7 (fun i hi hx=>h.yK i hx hi)) kf (fun i hi hx=>(h.u5 i hi).2 hx)
 ·refine(h.fu.kept k7 (fun i hx=>⟨fun hy=>?_,(h.ri i hx).1.2⟩)).kept kf (fun i hx=>⟨fun hy=>?_,by rw[hx];exact h.ae.2⟩)
  ·have:=(h.ri i hx).1.1;omega
  ·have:=h.ae.1;omega
 ·exact(k7.mono (fun i hi=>Or.inr (Or.inl (Or.inr hi)))).trans (kf.mono (fun i hi=>Or.inl hi))
 ·rcases hi with hi|(hi|hi)|hi
  ·exact Or.inl (Or.inl hi)
  ·exact Or.inl (Or.inr (Or.inl (Or.inl hi)))
  ·rcases lM i hi with h1|h1
   ·exact Or.inl (Or.inr (Or.inl (Or.inr h1)))
   ·exact Or.inr h1
  ·exact Or.inl (Or.inr (Or.inr hi))
theorem ail(h:py w eb g ah mt l lv sv):
 Calls prog 225 #[.pointer (some ⟨eb,0,none⟩)] w fun e w'=>e=.returned (.tuple #[.int .i64 ((l.head?.map (·.2)).getD 0),.bool (!l.isEmpty)])/\w'=w:=by
 obtain⟨b,a,c,hv,hT,_⟩:=pD.of h.ls;subst hv;have c3:w.cell? ⟨eb,3,none⟩=some (.slice a l.length c):=h.ak.cell 3
 cases l with
 |nil=>
  simp only[Bb]at c3;clear h hT;go_in;go_wp2_with fail;exact Bj (v:=.tuple #[.int .i64 0,.bool false]) (by simp[results,results225,go_sem]) rfl ⟨rfl,rfl⟩
 |cons t ts=>
  obtain⟨ha,_⟩:=hT.at_ (by simp);subst ha;have z:=(hT.cells 0 (by simp)).2;simp only[Ai,Eu,Ba]at z;obtain⟨n,hn⟩:∃n,n=(t::ts).length:=⟨_,rfl⟩
  rw[<-hn]at c3;have Ma:(n:Int)≠0:=by rw[hn];simp;omega
  have o9:¬(n:Int)<=0:=by omega
  have jS:((n:Int)==0)=false:=by simpa using Ma
  clear h hT hn;go_in;go_wp2_with fail;exact Bj (v:=.tuple #[.int .i64 t.2,.bool true]) (by simp[results,results225,go_sem]) rfl ⟨rfl,rfl⟩
def EbS(eb:Nat)(lv:Value)(W:World):Prop:=W.cell? ⟨eb,3,none⟩=some lv
theorem aij{j0:Int}(h:py w eb g ah mt l lv sv):
 Calls prog 224 #[.pointer (some ⟨eb,0,none⟩),.int .i32 j0] w fun e w'=>e=.returned (.tuple #[])/\∃dc,py w' eb g j0 false [] dc sv/\cF (k_ eb g lv sv) (k_ eb g dc sv) w w':=by
 obtain⟨ao,c,hv⟩:=cA h.ls;obtain⟨n,hn⟩:∃n,n=l.length:=⟨_,rfl⟩
 rw[<-hn]at hv;subst hv;have HH:=ab h;have HN:=ab hn;have B0:=ab h.ak;have c3:w.cell? ⟨eb,3,none⟩=some (.slice ao n c):=h.ak.cell 3;clear h hn;go_in;go_wp2_with fail;have aj:EbS eb (.slice ao n c) w.drew:=c3;have x2:=B0.out.cell 2;have y2:=B0.out.frozen 2;refine Cf (by kernel_rfl) (Cd (S:=fun _=>True) _ _ _ _ ?_);refine ai 0 4 (.pointer (some ⟨eb,0,none⟩)) trivial ?_;refine ai 1 5 (.pointer (some ⟨eb,0,none⟩)) trivial ?_;refine ai 2 6 (.pointer (some ⟨eb,0,none⟩)) trivial ?_;refine ai 3 7 (.int .i32 j0) trivial ?_;refine ai 4 8 (.pointer (some ⟨eb,0,none⟩)) trivial ?_;refine ai 5 9 (.pointer (some ⟨eb,0,none⟩)) trivial ?_;refine ai 6 10 (.pointer (some ⟨eb,3,none⟩)) trivial ?_;simp only[Act.put,Aa,Ad,Ac];refine bN 7 fun K hK=>?_
 go_simp;refine hK.out _ _ trivial (fun _=>?_);clear hK K;refine ai 8 12 (.slice ao 0 c) trivial ?_;refine ai 9 13 (.pointer (some ⟨eb,0,none⟩)) trivial ?_;refine ai 10 14 (.pointer (some ⟨eb,2,none⟩)) trivial ?_;simp only[Act.put,Aa,Ad,Ac];refine bN 11 fun K hK=>?_
 go_simp;refine hK.out _ _ trivial (fun _=>?_);clear hK K;refine ai 12 15 (.pointer (some ⟨eb,0,none⟩)) trivial ?_;refine ai 13 16 (.pointer (some ⟨eb,3,none⟩)) trivial ?_;simp only[Act.put,Aa,Ad,Ac];refine bN 14 fun K hK=>?_
 have x3:(w.setCell ⟨eb,2,none⟩ (.int .i32 j0)).cell? ⟨eb,3,none⟩=some (.slice ao n c):=(B0.out.setCell 2 (.int .i32 j0)).cell 3;have y3:=(B0.out.setCell 2 (.int .i32 j0)).frozen 3;go_simp;refine hK.out _ _ trivial (fun _=>?_);clear hK K;refine ai 15 17 (.pointer (some ⟨eb,0,none⟩)) trivial ?_;refine ai 16 18 (.pointer (some ⟨eb,5,none⟩)) trivial ?_;simp only[Act.put,Aa,Ad,Ac];refine bN 17 fun K hK=>?_
 have x5:((w.setCell ⟨eb,2,none⟩ (.int .i32 j0)).setCell ⟨eb,3,none⟩ (.slice ao 0 c)).cell? ⟨eb,5,none⟩=some (.bool mt):=((B0.out.setCell 2 (.int .i32 j0)).setCell 3 (.slice ao 0 c)).cell 5;have y5:=((B0.out.setCell 2 (.int .i32 j0)).setCell 3 (.slice ao 0 c)).frozen 5;go_simp;refine hK.out _ _ trivial (fun _=>?_);clear hK K;refine At (by kernel_rfl) ?_ _
 have B3:Hid (aq ((((w.setCell ⟨eb,2,none⟩ (.int .i32 j0)).setCell ⟨eb,3,none⟩ (.slice ao 0 c)).setCell ⟨eb,5,none⟩ (.bool false)).drew) eb #[.int .i64 g.st,.pointer (some ⟨g.fb,0,none⟩),.int .i32 j0,.slice ao 0 c,sv,.bool false] 153):=by
  have:=((B0.out.setCell 2 (.int .i32 j0)).setCell 3 (.slice ao 0 c)).setCell 5 (.bool false);simp only[Aa,Ad,Ac]at this;exact this
 have K3:Hid (aa (fun i=>i=eb) w ((((w.setCell ⟨eb,2,none⟩ (.int .i32 j0)).setCell ⟨eb,3,none⟩ (.slice ao 0 c)).setCell ⟨eb,5,none⟩ (.bool false)).drew)):=((((aa.refl (fun i=>i=eb) w).setCell (p:=⟨eb,2,none⟩) (Or.inl rfl) _).setCell (p:=⟨eb,3,none⟩) (Or.inl rfl) _).setCell (p:=⟨eb,5,none⟩) (Or.inl rfl) _).drew;generalize((((w.setCell ⟨eb,2,none⟩ (.int .i32 j0)).setCell ⟨eb,3,none⟩ (.slice ao 0 c)).setCell ⟨eb,5,none⟩ (.bool false)).drew)=w3 at*
 have ax:Hid (py w3 eb g j0 false [] (.slice ao 0 c) sv/\cF (k_ eb g (.slice ao n c) sv) (k_ eb g (.slice ao 0 c) sv) w w3):=by
  have xL:(Value.slice ao 0 c).ownBlock=(Value.slice ao n c).ownBlock:=by cases ao<;>rfl
  have h:=HH.out;obtain⟨m,xs,hs⟩:=h.sp;have sS:=h.ls;rw[<-HN.out]at sS;refine⟨⟨B3.out,bR (Ws sS) K3.out (fun i hi hx=>(h.ri i (xL▸hi)).2 hx),⟨m,xs,bR hs K3.out (fun i hi hx=>(h.u5 i hi).2 hx)⟩,h.fu.kept K3.out (fun i hx=>⟨fun hy=>?_,by rw[hx];exact h.ae.2⟩),Am _,fun t ht=>(by cases ht),h.ae,fun i hi=>h.ri i (xL▸hi),h.u5,fun i hi=>h.yK i (xL▸hi)⟩,⟨K3.out.mono (fun i hx=>Or.inl hx),fun i hi=>Or.inl ?_⟩⟩
  ·have:=h.ae.1;omega
  ·unfold k_ dC at hi⊢;rw[xL]at hi;exact hi
 clear x2 y2 x3 y3 x5 y5 c3 aj B3 K3 HH B0;go_wp2_with fail;go_end0;exact⟨rfl,_,ax.out.1,ax.out.2⟩
def NN(eb:Nat)(g:FG)(ah:Int)(lv sv:Value)(W:World):Prop:=(W.cell? ⟨eb,0,none⟩=some (.int .i64 g.st)/\W.cell? ⟨eb,1,none⟩=some (.pointer (some ⟨g.fb,0,none⟩)))/\W.cell? ⟨eb,2,none⟩=some (.int .i32 ah)/\W.cell? ⟨eb,3,none⟩=some lv/\W.cell? ⟨eb,4,none⟩=some sv
def R5(eb:Nat)(g:FG)(lv:Value)(W:World):Prop:=W.cell? ⟨eb,3,none⟩=some lv/\W.cell? ⟨eb,0,none⟩=some (.int .i64 g.st)
structure CD(w:World)(eb:Nat)(g:FG)(ah:Int)(mt:Bool)(l:List bF)(lv sv:Value):Prop where
 ak:aq w eb #[.int .i64 g.st,.pointer (some ⟨g.fb,0,none⟩),.int .i32 ah,lv,sv,.bool mt] 153
 ls:w.ownsRow 0 256 2 lv l.length (eF l)
 sp:∃n xs,w.ownsRow 0 256 2 sv n xs
 fu:iZ w g
 bT:l.length<=g.ms.length+1
 aU:∀t∈l,0<=t.1/\t.1<g.ms.length
 ae:(eb≠g.fb/\eb≠g.sb/\eb≠g.bb)/\¬g.cI eb
 ri:∀i,lv.ownBlock=some i->((i≠g.fb/\i≠g.sb/\i≠g.bb)/\¬g.cI i)/\i≠eb
 u5:∀i,sv.ownBlock=some i->((i≠g.fb/\i≠g.sb/\i≠g.bb)/\¬g.cI i)/\i≠eb
 yK:∀i,lv.ownBlock=some i->sv.ownBlock≠some i
theorem CD.cells(h:CD w eb g ah mt l lv sv)(k:aa af w W):NN eb g ah lv sv W:=by
 have:=h.ak.kept k (fun hx=>hx);exact⟨⟨this.cell 0,this.cell 1⟩,this.cell 2,this.cell 3,this.cell 4⟩
theorem CD.anY{w4:World}{next:List bF}(h:CD w eb g ah mt l lv sv)(dn:Bool)
 (hn:w4.ownsRow 0 256 2 nv next.length (eF next))(hI:iZ w4 g)(hG:cF (dC g sv) (dC g nv) w w4)(hna:∀i,nv.ownBlock=some i->(i≠g.fb/\i≠g.sb/\i≠g.bb)/\¬g.cI i)(hf:next.length<=g.ms.length)(ht:∀t∈next,0<=t.1/\t.1<g.ms.length):
 aq w4 eb #[.int .i64 g.st,.pointer (some ⟨g.fb,0,none⟩),.int .i32 ah,lv,sv,.bool mt] 153/\
 ∀w5,aq w5 eb #[.int .i64 g.st,.pointer (some ⟨g.fb,0,none⟩),.int .i32 bh,nv,lv,.bool (mt||dn)] 153->aa (fun i=>i=eb) w4 w5->py w5 eb g bh (mt||dn) next nv lv/\cF (k_ eb g lv sv) (k_ eb g nv lv) w w5:=by
 have az:¬dC g sv eb:=fun hx=>by
  rcases hx with hx|hx
  ·have:=h.ae.1;omega
  ·exact(h.u5 _ hx).2 rfl
 have b4:=h.ak.kept hG.kept az;have aw:=h.ak.lt
 have lN:∀i,nv.ownBlock=some i->sv.ownBlock=some i\/w.heap.size<=i:=fun i hi=>by
  rcases hG.ak i (Or.inr hi)with(h1|h1)|h1
  ·have:=(hna i hi).1;omega
  ·exact Or.inl h1
  ·exact Or.inr h1
 have ai5:w4.ownsRow 0 256 2 lv l.length (eF l):=bR h.ls hG.kept (fun i hi hx=>by
  rcases hx with hx|hx
  ·have:=(h.ri i hi).1.1;omega
  ·exact h.yK i hi hx)
 refine⟨b4,fun w5 hB k5=>⟨⟨hB,bR hn k5 (fun i hi hx=>?_),⟨_,_,bR ai5 k5 (fun i hi hx=>(h.ri i hi).2 hx)⟩,hI.kept k5 (fun i hx=>⟨fun hy=>?_,by rw[hx];exact h.ae.2⟩),hf,ht,h.ae,fun i hi=>⟨hna i hi,?_⟩,h.ri,fun i hi hx=>?_⟩,⟨?_,fun i hi=>?_⟩⟩⟩
 ·rcases lN i hi with h1|h1
  ·exact(h.u5 i h1).2 hx
  ·omega
 ·have:=h.ae.1;omega
 ·rcases lN i hi with h1|h1
  ·exact(h.u5 i h1).2
  ·omega
 ·rcases lN i hi with h1|h1
  ·exact h.yK i hx h1
  ·have:=(dw h.ls hx).2;omega
 ·exact(hG.kept.mono (fun i hx=>by rcases hx with hx|hx;exact Or.inr (Or.inl (Or.inl hx));exact Or.inr (Or.inr hx))).trans (k5.mono (fun i hx=>Or.inl hx))
 ·rcases hi with hi|(hi|hi)|hi
  ·exact Or.inl (Or.inl hi)
  ·exact Or.inl (Or.inr (Or.inl (Or.inl hi)))
  ·rcases lN i hi with h1|h1
   ·exact Or.inl (Or.inr (Or.inr h1))
   ·exact Or.inr h1
  ·exact Or.inl (Or.inr (Or.inl (Or.inr hi)))
theorem KI(b j:Nat):(⟨b,0,none⟩:Addr).add j=⟨b,j,none⟩:=by unfold Addr.add;split<;>simp_all
def DB(n:Nat)(f:FS):Prop:=∀t∈f.next,0<=t.1/\t.1<n
theorem an8{m:MS}{st:Int}(h:DB n f)(hm:0<=m.next/\m.next<n):DB n (mT m bh st f):=by
 unfold mT;split
 ·intro t ht;rcases Ap.1 ht with ht|ht
  ·exact h t ht
  ·simp only[Bm]at ht;rw[ht];exact hm
 ·exact h
theorem TM(hg:eR ms)(ah bh:Int):∀(d:Nat) (u st:Int) (f:FS),DB ms.length f->DB ms.length (gx ms ah bh d u st f).1
 |0,_,_,_,h=>h
 |d+1,u,st,f,h=>by
  have IH:=TM hg ah bh d;have hM:DB ms.length ⟨f.seen.set u.toNat true,f.dF,f.next⟩:=h;unfold gx;split
  ·exact h
  ·split
   ·exact h
   ·rename_i m hm
    obtain⟨_,g1,_,_⟩:=hg _ m hm;split
    ·exact h
    ·split
     ·rename_i k1
      exact an8 hM (g1 k1)
     ·split
      ·split
       ·exact IH _ _ _ hM
       ·exact hM
      ·split
       ·exact IH _ _ _ hM
       ·split
        ·exact IH _ _ _ hM
        ·exact IH _ _ _ (IH _ _ _ hM)
theorem aeR(hg:eR ms)(ah bh:Int):∀(l:List bF) (f:FS),DB ms.length f->DB ms.length (iW ms ah bh l f).1
 | [],f,h=>h
 |t::ts,f,h=>by
  unfold iW;split
  ·exact TM hg ah bh _ _ _ _ h
  ·exact aeR hg ah bh ts _ (TM hg ah bh _ _ _ _ h)
theorem Rw(hg:eR ms)(ah bh:Int)(l:List bF):∀t∈ (aZ ms ah bh l).1,0<=t.1/\t.1<ms.length:=aeR hg ah bh l _ (fun t ht=>by cases ht)
def uz(g:FG)(p:Int)(mt:Bool)(l:List bF):List bF:=if mt then l else l++[(g.st,p)]
theorem aiq(hg:g.Ok)(bt:0<=g.st/\g.st<g.ms.length)(hb:0<=bh/\bh<=1114111)(h:py w eb g ah mt l lv sv):
 Calls prog 227 #[.pointer (some ⟨eb,0,none⟩),.int .i64 p,.int .i32 bh] w fun e w'=>e=.returned (.tuple #[.int .i64 ((aZ g.ms ah bh (uz g p mt l)).2.getD 0),.bool (aZ g.ms ah bh (uz g p mt l)).2.isSome])/\∃dc xE,py w' eb g bh (mt||(aZ g.ms ah bh (uz g p mt l)).2.isSome) (aZ g.ms ah bh (uz g p mt l)).1 dc xE/\cF (k_ eb g lv sv) (k_ eb g dc xE) w w':=by
 have HH:=ab h;have HG:=ab hg;have lF:=ab bt;have c5:w.cell? ⟨eb,5,none⟩=some (.bool mt):=h.ak.cell 5;clear h hg bt;go_in;go_upto_if 13 with fail
 go_cut [6] (fun s6 wx=>s6=.int .i64 0/\∃vR,Hid (CD wx eb g ah mt (uz g p mt l) vR sv)/\Hid (cF (k_ eb g lv sv) (k_ eb g vR sv) w wx))
 case first=>
  cases mt with
  |true=>
   have h:=HH.out;have ax:Hid (CD w eb g ah true (uz g p true l) lv sv):=⟨h.ak,h.ls,h.sp,h.fu,Nat.le_succ_of_le h.bT,h.aU,h.ae,h.ri,h.u5,h.yK⟩;clear h HH HG lF;go_wp2_with fail;go_meet
   case rel=>exact⟨rfl,lv,ax,cF.refl _ _⟩
  |false=>
   obtain⟨ao,cn,FP⟩:=cA HH.out.ls
   have Oi:Hid (∀W w7 dc,aa af w W->w7.ownsRow 0 256 2 dc (l.length+1) (eF l++[.int .i64 g.st,.int .i64 p])->W.grownBy w7 lv.ownBlock->(dc.ownBlock=lv.ownBlock\/dc.ownBlock=some W.heap.size)->R5 eb g lv w7/\w7.frozen? ⟨eb,3,none⟩=false/\CD (w7.setCell ⟨eb,3,none⟩ dc) eb g ah false (uz g p false l) dc sv/\cF (k_ eb g lv sv) (k_ eb g dc sv) w (w7.setCell ⟨eb,3,none⟩ dc)):=fun W w7 dc k0 bk dK cx=>by
    have h:=HH.out;obtain⟨⟨q1,q2,q3⟩,⟨r1,r2,r3,r4,r5⟩,r6⟩:=h.Nx lF.out k0 bk dK cx;refine⟨⟨q1,q2⟩,q3,⟨r1,r2,r3,r4,?_,fun t ht=>?_,h.ae,fun i hi=>⟨(r5 i hi).1,(r5 i hi).2.1⟩,h.u5,fun i hi=>(r5 i hi).2.2⟩,r6⟩
    ·have:=h.bT;show(l++[(g.st,p)]).length<=_
     rw[Aj];simp;omega
    ·rcases Ap.1 (show t∈l++[(g.st,p)]from ht)with ht|ht
     ·exact h.aU t ht
     ·simp only[Bm]at ht;rw[ht];exact lF.out
   have S2:Hid (∀W,aa af w W->R5 eb g lv W):=fun W k=>by
    have:=HH.out.ak.kept k (fun hx=>hx);exact⟨this.cell 3,this.cell 0⟩
   have nQ:Hid (∀W,aa af w W->W.ownsRow 0 256 2 lv l.length (eF l)):=(fun W k=>bR HH.out.ls k (fun i _ hx=>hx));have oY:l.length<=4001:=by have:=HH.out.bT;have:=HG.out.bT;omega
   obtain⟨i0,cP,di,dj,cY⟩:=Bo Tryz.VI;subst FP;clear HH HG lF;go_wp2_with fail;refine gW (S:=R5 eb g (.slice ao l.length cn)) 15 (by kernel_rfl) rfl rfl rfl (by kernel_rfl) (by kernel_rfl) ?_;have cw:=S2.out w.drew (aa.refl _ _).drew;refine ai 0 14 (.pointer (some ⟨eb,0,none⟩)) cw ?_;refine ai 1 15 (.pointer (some ⟨eb,0,none⟩)) cw ?_;refine ai 2 16 (.pointer (some ⟨eb,0,none⟩)) cw ?_;refine ai 3 17 (.pointer (some ⟨eb,3,none⟩)) cw ?_;refine ai 4 18 (.slice ao l.length cn) cw ?_;refine ai 5 19 (.pointer (some ⟨eb,0,none⟩)) cw ?_;refine ai 6 20 (.pointer (some ⟨eb,0,none⟩)) cw ?_;refine ai 7 21 (.pointer (some ⟨eb,0,none⟩)) cw ?_;refine ai 8 22 (.int .i64 g.st) cw ?_;refine ai 9 23 (.int .i64 p) cw ?_;refine ai 10 24 (.agg #[.int .i64 g.st,.int .i64 p]) cw ?_;simp only[Act.put,Aa,Ad,Ac];refine bN 11 fun K hK=>?_
   go_simp;have kA:aa af w (w.alloc (.cells #[.int .i64 g.st,.int .i64 p] 256)).drew:=((aa.refl af w).alloc _).drew;refine hK.out _ _ (S2.out _ kA) (fun _=>?_);clear hK K;refine bN 12 fun K hK=>?_
   refine Rx rfl (.tmp 18) (.tmp 25) 151 rfl 0 256 i0 _ 2 16 underlying151 cP di dj cY rfl (by decide) _ _ _ rfl (nQ.out _ kA) ⟨w.heap.size,0,none⟩ 1 1 [.int .i64 g.st,.int .i64 p] rfl rfl ?nw (RE _ _) (by unfold maxLen;omega) (by omega) (Am _) ?_
   case nw=>
    intro j v hv;have hB:=aq.new w #[.int .i64 g.st,.int .i64 p] 256;rw[KI];exact(hB.cell j).trans (by simpa using hv)
   intro v' w7 ho dK cx;obtain⟨jd,c',rfl⟩:=cA ho;obtain⟨s7,f7,p1,p2⟩:=Oi.out _ _ _ kA ho dK cx;refine hK.out _ _ s7 (fun vq=>?_);have c7:=vq.1;clear hK K;have P1:=ab p1;have P2:=ab p2;refine ai 13 27 (.pointer (some ⟨eb,0,none⟩)) vq ?_;refine ai 14 28 (.pointer (some ⟨eb,3,none⟩)) vq ?_;simp only[Act.put,Aa,Ad,Ac];refine At (by kernel_rfl) ?_ _;unfold eJ;simp only[Al,Ag,Ai];go_simp;go_wp2_with fail;go_meet
   case rel=>exact⟨rfl,_,P1,P2⟩
 case rest=>
  obtain⟨rfl,vR,HN,oH⟩:=hcut;clear HH c5;have SN:Hid (∀W,aa af wc W->NN eb g ah vR sv W):=fun W k=>HN.out.cells k
  obtain⟨b1,a1,qm,ml,Uo,Vd⟩:=pD.of HN.out.ls;obtain⟨n2,xs2,gi⟩:=HN.out.sp;have afA:Hid (uz g p mt l=uz g p mt l):=(rfl:_=_);generalize hL:uz g p mt l=L at*
  have F:Hid (∀W,aa af wc W->Calls prog 228 #[.pointer (some ⟨g.fb,0,none⟩),.slice a1 L.length qm,sv,.int .i32 ah,.int .i32 bh] W fun e w'=>∃nv,e=.returned (.tuple #[nv,.int .i64 ((aZ g.ms ah bh L).2.getD 0),.bool (aZ g.ms ah bh L).2.isSome])/\w'.ownsRow 0 256 2 nv (aZ g.ms ah bh L).1.length (eF (aZ g.ms ah bh L).1)/\iZ w' g/\cF (dC g sv) (dC g nv) W w'/\(∀i,nv.ownBlock=some i->(i≠g.fb/\i≠g.sb/\i≠g.bb)/\¬g.cI i)/\(aZ g.ms ah bh L).1.length<=g.ms.length):=fun W k=>by
   have h:=HN.out;refine abo HG.out (h.fu.new k) hb (Uo.kept k (fun _ hx=>hx)) (fun az hx=>?_) h.aU (by have:=h.bT;have:=HG.out.bT;omega) (bR gi k (fun _ _ hx=>hx)) (fun i hi=>(h.u5 i hi).1) (by have:=lF.out;omega);have ki:=Vd az;rcases hx with hx|hx
   ·have:=(h.ri _ ki).1.1;omega
   ·exact h.yK _ ki hx
  subst ml
  have Zx:Hid (∀W w4 nv,aa af wc W->w4.ownsRow 0 256 2 nv (aZ g.ms ah bh L).1.length (eF (aZ g.ms ah bh L).1)->iZ w4 g->cF (dC g sv) (dC g nv) W w4->(∀i,nv.ownBlock=some i->(i≠g.fb/\i≠g.sb/\i≠g.bb)/\¬g.cI i)->(aZ g.ms ah bh L).1.length<=g.ms.length->aq w4 eb #[.int .i64 g.st,.pointer (some ⟨g.fb,0,none⟩),.int .i32 ah,.slice a1 L.length qm,sv,.bool mt] 153/\∀w5,aq w5 eb #[.int .i64 g.st,.pointer (some ⟨g.fb,0,none⟩),.int .i32 bh,nv,.slice a1 L.length qm,.bool (mt||(aZ g.ms ah bh L).2.isSome)] 153->aa (fun i=>i=eb) w4 w5->py w5 eb g bh (mt||(aZ g.ms ah bh L).2.isSome) (aZ g.ms ah bh L).1 nv (.slice a1 L.length qm)/\cF (k_ eb g lv sv) (k_ eb g nv (.slice a1 L.length qm)) w w5):=fun W w4 nv k q1 q2 q3 q4 q5=>by
   have nF:cF (dC g sv) (dC g nv) wc w4:=(cF.of k (fun i hi=>Or.inl hi)).trans q3;obtain⟨r1,r2⟩:=HN.out.anY (bh:=bh) (aZ g.ms ah bh L).2.isSome q1 q2 nF q4 q5 (Rw HG.out.ft ah bh L);exact⟨r1,fun w5 s1 s2=>⟨(r2 w5 s1 s2).1,oH.out.trans (r2 w5 s1 s2).2⟩⟩
  generalize Pt:(aZ g.ms ah bh L).2.getD 0=d0 at*
  generalize LC:(aZ g.ms ah bh L).2.isSome=d1 at*
  obtain⟨Im,c2,nI⟩:=cA gi;subst nI;have HL:=ab hL;have HR1:=ab Pt;have qf:=ab LC;clear Uo Vd gi HN oH HG lF afA hL Pt LC;go_wp2_with fail;refine jW (Cf (by kernel_rfl) (Cd (S:=NN eb g ah (.slice a1 L.length qm) (.slice Im n2 c2)) _ _ _ _ ?_));have aj:=SN.out wc.drew (aa.refl _ _).drew;refine ai 0 30 (.pointer (some ⟨eb,0,none⟩)) aj ?_;refine ai 1 31 (.pointer (some ⟨eb,0,none⟩)) aj ?_;refine ai 2 32 (.pointer (some ⟨eb,1,none⟩)) aj ?_;refine ai 3 33 (.pointer (some ⟨g.fb,0,none⟩)) aj ?_;refine ai 4 34 (.pointer (some ⟨eb,0,none⟩)) aj ?_;refine ai 5 35 (.pointer (some ⟨eb,0,none⟩)) aj ?_;refine ai 6 36 (.pointer (some ⟨eb,3,none⟩)) aj ?_;refine ai 7 37 (.slice a1 L.length qm) aj ?_;refine ai 8 38 (.pointer (some ⟨eb,0,none⟩)) aj ?_;refine ai 9 39 (.pointer (some ⟨eb,0,none⟩)) aj ?_;refine ai 10 40 (.pointer (some ⟨eb,4,none⟩)) aj ?_;refine ai 11 41 (.slice Im n2 c2) aj ?_;refine ai 12 42 (.pointer (some ⟨eb,0,none⟩)) aj ?_;refine ai 13 43 (.pointer (some ⟨eb,0,none⟩)) aj ?_;refine ai 14 44 (.pointer (some ⟨eb,2,none⟩)) aj ?_;refine ai 15 45 (.int .i32 ah) aj ?_;refine ai 16 46 (.int .i32 bh) aj ?_;simp only[Act.put,Aa,Ad,Ac];refine bN 17 fun K hK=>?_
  go_simp;refine(F.out _ (aa.refl _ _).drew).mono ?_;rintro e w4 ⟨nv,rfl,q1,q2,q3,q4,q5⟩;dsimp only;obtain⟨b4,ab2⟩:=Zx.out _ w4 nv (aa.refl _ _).drew q1 q2 q3 q4 q5;have cw:NN eb g ah (.slice a1 L.length qm) (.slice Im n2 c2) w4:=⟨⟨b4.cell 0,b4.cell 1⟩,b4.cell 2,b4.cell 3,b4.cell 4⟩;refine hK.out _ _ cw (fun _=>?_);clear hK K;obtain⟨fQ,c3,kT⟩:=cA q1;generalize(aZ g.ms ah bh L).1.length=n3 at kT;subst kT;have i_:=ab b4;have Y2:=ab ab2;clear b4 ab2 q1 q2 q3 q4 q5 F Zx SN;refine ai 18 29 (.tuple #[.slice fQ n3 c3,.int .i64 d0,.bool d1]) cw ?_;refine ai 19 48 (.slice fQ n3 c3) cw ?_;refine ai 20 49 (.int .i64 d0) cw ?_;refine ai 21 50 (.bool d1) cw ?_;refine ai 22 8 (.slice fQ n3 c3) cw ?_;refine ai 23 6 (.int .i64 d0) cw ?_;refine ai 24 7 (.bool d1) cw ?_;simp only[Act.put,Aa,Ad,Ac];refine At (by kernel_rfl) ?_ _;refine jw ?_;have x2:w4.cell? ⟨eb,2,none⟩=some (.int .i32 ah):=i_.out.cell 2;have x3:w4.cell? ⟨eb,3,none⟩=some (.slice a1 L.length qm):=i_.out.cell 3;have x4:w4.cell? ⟨eb,4,none⟩=some (.slice Im n2 c2):=i_.out.cell 4;have x5:w4.cell? ⟨eb,5,none⟩=some (.bool mt):=i_.out.cell 5;have y2:=i_.out.frozen 2;have y3:=i_.out.frozen 3;have y4:=i_.out.frozen 4;have y5:=i_.out.frozen 5
  have ax:Hid (∀d2,d2=(mt||d1)->py ((((w4.setCell ⟨eb,3,none⟩ (.slice fQ n3 c3)).setCell ⟨eb,4,none⟩ (.slice a1 L.length qm)).setCell ⟨eb,2,none⟩ (.int .i32 bh)).setCell ⟨eb,5,none⟩ (.bool d2)) eb g bh (mt||d1) (aZ g.ms ah bh L).1 (.slice fQ n3 c3) (.slice a1 L.length qm)/\cF (k_ eb g lv (.slice Im n2 c2)) (k_ eb g (.slice fQ n3 c3) (.slice a1 L.length qm)) w ((((w4.setCell ⟨eb,3,none⟩ (.slice fQ n3 c3)).setCell ⟨eb,4,none⟩ (.slice a1 L.length qm)).setCell ⟨eb,2,none⟩ (.int .i32 bh)).setCell ⟨eb,5,none⟩ (.bool d2))):=fun d2 hd=>by
   subst hd;refine Y2.out _ ?_ (((((aa.refl (fun i=>i=eb) w4).setCell (p:=⟨eb,3,none⟩) (Or.inl rfl) _).setCell (p:=⟨eb,4,none⟩) (Or.inl rfl) _).setCell (p:=⟨eb,2,none⟩) (Or.inl rfl) _).setCell (p:=⟨eb,5,none⟩) (Or.inl rfl) _);have:=(((i_.out.setCell 3 (.slice fQ n3 c3)).setCell 4 (.slice a1 L.length qm)).setCell 2 (.int .i32 bh)).setCell 5 (.bool (mt||d1));simp only[Aa,Ad,Ac]at this;exact this
  clear i_ Y2 aj cw
  cases mt
  all_goals
   go_wp2_with fail
   exact Bj (v:=.tuple #[.int .i64 d0,.bool d1]) (by simp[results,results227,go_sem]) rfl ⟨by rw[HL.out,HR1.out,qf.out],.slice fQ n3 c3,.slice a1 L.length qm,by rw[HL.out,qf.out];first|exact ax.out d1 (by simp)|exact ax.out true (by simp)⟩
end Go.Proofs.YtpdnofhackjfdaaGreatDoor
