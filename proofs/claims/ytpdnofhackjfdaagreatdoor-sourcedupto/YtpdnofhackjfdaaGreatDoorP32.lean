/- Package threads' -/
import Derived.Test.YtpdnofhackjfdaaGreatDoorP31
set_option linter.all false
set_option maxRecDepth 100000
set_option maxHeartbeats 8000000
namespace Go.Proofs.YtpdnofhackjfdaaGreatDoor
open Go.Proofs.Tryz
open Go.RowKit Go.Maps
variable {mt:Bool} {g:FG} {f:FS} {ah bh p:Int} {ms:List MS} {l:List bJ} {xs:List Value} {base eb n:Nat} {K:Nat->Prop} {lv nv sv:Value} {W w w':World}
theorem af8{P:Program}{ops:Array Oper}{rest:List Oper}{o:Oper}{a:Act}{Q:Exit->Act->World->Prop}(ia:o.guard=none)(d:Operand)(dT:TypeId)
 (ho:o.op=.call {callee:=.builtin .clear,args:=#[d],argTypes:=#[dT]})(elem:TypeId)(hu:P.underlying dT=some (.slice elem))(hz:(zeroValue elem).run P w=.ok (.bool false) w)
 (g n c:Nat)(hd:a.eval d=.slice (some (GB g 0)) n c)(hn:n≠0)
 (bs:List Bool)(t:TypeId)(hg:au w g (kU bs).toArray t)(uw:bs.length=n)
 (h:∀w',au w' g (kU (List.replicate n false)).toArray t->aa (fun i=>i=g) w w'->wpList P ops Q rest (a.put o.dst (.tuple #[])) w'):wpList P ops Q (o::rest) a w:=by
 refine wpList_plain ia fun K hK=>?_
 have h:=h _ (setRow_heap w g _ _ t _ hg) (aa.row g _);have gJ:(kU bs).length=n:=by unfold kU;simp[uw]
 have bD:=run_storeCells_at P g 0 t (List.replicate n (.bool false)) 0 _ w hg (by simp[gJ]) (by intro v hv;rw[D6 hv];rfl)
 have tw:(Builtin.clear_ #[dT] o.type #[.slice (some (GB g 0)) n c]).run P w=.ok (.tuple #[]) (w.setRow g (kU (List.replicate n false)).toArray):=by
  obtain⟨m,rfl⟩:∃m,n=m+1:=⟨n-1,by omega⟩
  have e2:kU (List.replicate (m+1) false)=List.replicate (m+1) (.bool false):=by simp[kU]
  simp only[Builtin.clear_,go_sem];simp[Gi hu,hz,aga,bD];have e3:List.drop (m+1) (kU bs)=[]:=Eg (by omega);rw[e2,e3];simp
 unfold Oper.wp;simp[execOp,ho,resolve,invoke,builtin,hd,tw,Result.andThen];exact hK _ _ h
theorem X4{e size c:Nat}{ao:Option Addr}(h:w.ownsRow base e size (.slice ao n c) n xs):w.ownsRow base e size (.slice ao 0 c) 0 []:=by
 refine⟨by simp,?_⟩;rcases h.2 with⟨h2,h3⟩|⟨g,cap,aO,h3,h4,h5,h6,h7,h8,h9⟩
 ·cases h2;exact Or.inl ⟨rfl,rfl⟩
 ·cases h3;exact Or.inr ⟨g,c,aO,rfl,h4,h5,Al _,h7,h8,by simp⟩
structure pX(w:World)(b:Nat)(a:Option Addr)(l:List bJ):Prop where
 at_:l≠ []->a=some (GB b 0)/\b<w.heap.size
 cells:∀k,(h:k<l.length)->w.cell? ⟨b,k*2,none⟩=some (GW (l[k]).1)/\w.cell? ⟨b,k*2+1,none⟩=some (GW (l[k]).2)
theorem pX.kept{b:Nat}{a:Option Addr}(h:pX w b a l)(k:aa K w w')(hK:l≠ []->¬K b):pX w' b a l:=
 ⟨fun hl=>⟨(h.at_ hl).1,Ar (h.at_ hl).2 k.size⟩,fun i hi=>by
   have aB:l≠ []:=by intro e;subst e;simp at hi
   exact⟨(k.cell (p:=⟨b,i*2,none⟩) (h.at_ aB).2 (hK aB)).trans (h.cells i hi).1,(k.cell (p:=⟨b,i*2+1,none⟩) (h.at_ aB).2 (hK aB)).trans (h.cells i hi).2⟩⟩
theorem Td{k:Nat}(h:k<l.length):(eU l)[k*2]? =some (GW (l[k]).1)/\(eU l)[k*2+1]? =some (GW (l[k]).2):=by
 induction l generalizing k with
 |nil=>simp at h
 |cons t ts ih=>
  have e:eU (t::ts)=GW t.1::GW t.2::eU ts:=rfl;rw[e]
  cases k with
  |zero=>exact⟨rfl,rfl⟩
  |succ k=>
   have:=ih (k:=k) (by simpa using h);rw[show(k+1)*2=k*2+1+1 by omega,show k*2+1+1+1=(k*2+1)+1+1 by omega];simp only[D9,Ag];exact this
theorem pX.of{v:Value}(h:w.ownsRow base 256 2 v l.length (eU l)):∃b a c,v=.slice a l.length c/\pX w b a l/\(l≠ []->v.ownBlock=some b):=by
 rcases h.2 with⟨h2,h3⟩|⟨g,cap,aO,h3,h4,h5,h6,h7,h8,h9⟩
 ·have:l=[]:=Aw.1 h3;subst this;exact⟨0,none,0,h2,⟨fun hx=>absurd rfl hx,fun k hk=>by simp at hk⟩,fun hx=>absurd rfl hx⟩
 ·refine⟨g,some (GB g 0),cap,h3,⟨fun _=>⟨rfl,(Am.1 h5).1⟩,fun k hk=>?_⟩,fun _=>by rw[h3];rfl⟩
  have hc:∀i,i<l.length*2->w.cell? (GB g i)=(eU l)[i]? :=fun i hi=>by
   rw[<-h9,Av hi];simp only[World.cell?,h5];simp
  exact⟨(hc _ (by omega)).trans (Td hk).1,(hc _ (by omega)).trans (Td hk).2⟩
structure jh(w:World)(g:FG):Prop where
 ex:∃(ah bh:Int) (nv:Value) (s1 b1:List Bool),au w g.fb #[g.mv,GW g.st,GW g.G,.int .i32 ah,.int .i32 bh,.slice (some (GB g.sb 0)) g.ms.length g.ms.length,.slice (some (GB g.bb 0)) g.ms.length g.ms.length,nv] 183/\(au w g.sb (kU s1).toArray 4/\s1.length=g.ms.length)/\(au w g.bb (kU b1).toArray 4/\b1.length=g.ms.length)
 ma:jj w g.lo g.hi g.mb g.c g.vs g.ms
theorem gE.fO(h:gE w g ah bh nv f):jh w g:=⟨⟨ah,bh,nv,f.seen,f.dO,h.aq,⟨h.sn,h.sz.1⟩,⟨h.bg,h.sz.2⟩⟩,h.ma⟩
theorem jh.kept(h:jh w g)(k:aa K w w')(hK:∀i,K i->¬(i=g.fb\/i=g.sb\/i=g.bb)/\¬g.cP i):jh w' g:=by
 obtain⟨ah,bh,nv,s1,b1,h1,⟨h2,h3⟩,⟨h4,h5⟩⟩:=h.ex;exact⟨⟨ah,bh,nv,s1,b1,h1.kept k (fun hx=>(hK _ hx).1 (Or.inl rfl)),⟨h2.kept k (fun hx=>(hK _ hx).1 (Or.inr (Or.inl rfl))),h3⟩,⟨h4.kept k (fun hx=>(hK _ hx).1 (Or.inr (Or.inr rfl))),h5⟩⟩,h.ma.Kb k (fun i hx=>(hK i hx).2)⟩
theorem jh.new(h:jh w g)(k:aa ai w w'):jh w' g:=h.kept k (fun _ hx=>hx.elim)
structure Ut(w wr:World)(g:FG)(ah bh:Int)(iv nv:Value)(l:List bJ)(k:Nat)(f:FS):Prop where
 fl:gE wr g ah bh nv f
 dt:cH (dL g iv) (dL g nv) w wr
 eq:je g.ms ah bh l (FS.new g.ms.length)=je g.ms ah bh (l.drop k) f
theorem ab4{iv:Value}{lb lc:Nat}{la:Option Addr}(hg:g.Ok)(hI:jh w g)(hb:0<=bh/\bh<=1114111)(hl:pX w lb la l)(uD:l≠ []->¬dL g iv lb)(RJ:∀t∈l,0<=t.1/\t.1<g.ms.length)(dc:l.length<=10000)(hv:w.ownsRow 0 256 2 iv n xs)(Rg:∀i,iv.ownBlock=some i->(i≠g.fb/\i≠g.sb/\i≠g.bb)/\¬g.cP i)(wo:g.ms.length≠0):
 Calls prog 228 #[BT g.fb 0,.slice la l.length lc,iv,.int .i32 ah,.int .i32 bh] w fun e w'=>∃nv,e=.returned (.tuple #[nv,GW ((bc g.ms ah bh l).2.getD 0),.bool (bc g.ms ah bh l).2.isSome])/\w'.ownsRow 0 256 2 nv (bc g.ms ah bh l).1.length (eU (bc g.ms ah bh l).1)/\jh w' g/\cH (dL g iv) (dL g nv) w w'/\(∀i,nv.ownBlock=some i->(i≠g.fb/\i≠g.sb/\i≠g.bb)/\¬g.cP i)/\(bc g.ms ah bh l).1.length<=g.ms.length:=by
 obtain⟨ah0,nJ,nv0,s1,b1,hB,⟨hS,cZ⟩,⟨BU,jM⟩⟩:=hI.ex;obtain⟨ao,cv,rfl⟩:=cw hv;have c5:w.cell? (GB g.fb 5)=some (.slice (some (GB g.sb 0)) g.ms.length g.ms.length):=hB.cell 5;have HG:=ab hg;have HB:=ab hB;have HS:=ab hS;have yv:=ab BU;have HV:=ab hv;have ZN:=ab Rg;have HL:=ab hl;have T4:=ab hI.ma;clear hg hI hl hv Rg hB hS BU;go_in;go_wp2_with (refine af8 rfl (.tmp 18) 181 rfl 4 underlying181 ?z g.sb g.ms.length g.ms.length rfl wo s1 4 HS.o cZ ?_)
 case z=>exact zeroValue4 _
 intro w1 ab8 aU;have c6:w1.cell? (GB g.fb 6)=some (.slice (some (GB g.bb 0)) g.ms.length g.ms.length):=(HB.o.kept aU (fun hx=>HG.o.ap.1 hx)).cell 6;have Zo:=ab (yv.o.kept aU (fun hx=>HG.o.ap.2.2 hx.symm));have vo:=ab ab8;have qB:=ab aU;clear ab8 aU c5;go_wp2_with (refine af8 rfl (.tmp 22) 181 rfl 4 underlying181 ?z g.bb g.ms.length g.ms.length rfl wo b1 4 Zo.o jM ?_)
 case z=>exact zeroValue4 _
 intro w2 oB aS;have iK:=ab ((HB.o.kept qB.o (fun hx=>HG.o.ap.1 hx)).kept aS (fun hx=>HG.o.ap.2.1 hx));have il:=ab (vo.o.kept aS (fun hx=>HG.o.ap.2.2 hx));have Zp:=ab oB;have lu:Hid (aa (fun i=>i=g.sb\/i=g.bb) w w2):=(qB.o.mono (fun i hx=>Or.inl hx)).trans (aS.mono (fun i hx=>Or.inr hx));clear oB aS c6 vo Zo qB HB HS yv;go_wp2_with fail;have hS:∀W:World,(fun _:World=>True) W:=fun _=>trivial
 have x3:=iK.o.cell 3;have x4:=iK.o.cell 4;have x7:=iK.o.cell 7;have y3:=iK.o.frozen 3;have y4:=iK.o.frozen 4;have y7:=iK.o.frozen 7;refine j_ (Cl (by kernel_rfl) (Ci (S:=fun _=>True) _ _ _ _ ?_));refine aj 0 23 (BT g.fb 0) trivial ?_;refine aj 1 24 (BT g.fb 0) trivial ?_;refine aj 2 25 (BT g.fb 0) trivial ?_;refine aj 3 26 (.int .i32 ah) trivial ?_;refine aj 4 27 (.int .i32 bh) trivial ?_;refine aj 5 28 (.slice ao n cv) trivial ?_;refine aj 6 29 (.slice ao 0 cv) trivial ?_;refine aj 7 30 (BT g.fb 0) trivial ?_;refine aj 8 31 (BT g.fb 3) trivial ?_;simp only[Act.put,Aa,Ad,Ac];refine bR 9 fun K hK=>?_
 go_simp;refine hK.o _ _ trivial (fun _=>?_);clear hK K;refine aj 10 32 (BT g.fb 0) trivial ?_;refine aj 11 33 (BT g.fb 4) trivial ?_;simp only[Act.put,Aa,Ad,Ac];refine bR 12 fun K hK=>?_
 have x4':(w2.setCell (GB g.fb 3) (.int .i32 ah)).cell? (GB g.fb 4)=some (.int .i32 nJ):=((iK.o.setCell 3 (.int .i32 ah)).cell 4);have y4':=(iK.o.setCell 3 (.int .i32 ah)).frozen 4;go_simp;refine hK.o _ _ trivial (fun _=>?_);clear hK K;refine aj 13 34 (BT g.fb 0) trivial ?_;refine aj 14 35 (BT g.fb 7) trivial ?_;simp only[Act.put,Aa,Ad,Ac];refine bR 15 fun K hK=>?_
 have x7':((w2.setCell (GB g.fb 3) (.int .i32 ah)).setCell (GB g.fb 4) (.int .i32 bh)).cell? (GB g.fb 7)=some nv0:=(((iK.o.setCell 3 (.int .i32 ah)).setCell 4 (.int .i32 bh)).cell 7);have y7':=((iK.o.setCell 3 (.int .i32 ah)).setCell 4 (.int .i32 bh)).frozen 7;go_simp;refine hK.o _ _ trivial (fun _=>?_);clear hK K;refine At (by kernel_rfl) ?_ _;refine jE ?_
 have sJ:Hid (au (((w2.setCell (GB g.fb 3) (.int .i32 ah)).setCell (GB g.fb 4) (.int .i32 bh)).setCell (GB g.fb 7) (.slice ao 0 cv)).drew g.fb #[g.mv,GW g.st,GW g.G,.int .i32 ah,.int .i32 bh,.slice (some (GB g.sb 0)) g.ms.length g.ms.length,.slice (some (GB g.bb 0)) g.ms.length g.ms.length,.slice ao 0 cv] 183):=by
  have:=((iK.o.setCell 3 (.int .i32 ah)).setCell 4 (.int .i32 bh)).setCell 7 (.slice ao 0 cv);simp only[Aa,Ad,Ac]at this;exact this
 have iL:Hid (aa (fun i=>i=g.fb) w2 (((w2.setCell (GB g.fb 3) (.int .i32 ah)).setCell (GB g.fb 4) (.int .i32 bh)).setCell (GB g.fb 7) (.slice ao 0 cv)).drew):=((((aa.refl (fun i=>i=g.fb) w2).setCell (p:=(GB g.fb 3)) (Or.inl rfl) _).setCell (p:=(GB g.fb 4)) (Or.inl rfl) _).setCell (p:=(GB g.fb 7)) (Or.inl rfl) _).drew;generalize(((w2.setCell (GB g.fb 3) (.int .i32 ah)).setCell (GB g.fb 4) (.int .i32 bh)).setCell (GB g.fb 7) (.slice ao 0 cv)).drew=w3 at*;have K3:Hid (aa (fun i=>i=g.fb\/i=g.sb\/i=g.bb) w w3):=(lu.o.mono (fun i hx=>Or.inr hx)).trans (iL.o.mono (fun i hx=>Or.inl hx));have yr:(Value.slice ao 0 cv).ownBlock=(Value.slice ao n cv).ownBlock:=by cases ao<;>rfl
 have HF:Hid (gE w3 g ah bh (.slice ao 0 cv) (FS.new g.ms.length)):=
  ⟨sJ.o,il.o.kept iL.o (fun hx=>HG.o.ap.1 hx.symm),Zp.o.kept iL.o (fun hx=>HG.o.ap.2.1 hx.symm),bU (X4 HV.o) K3.o (fun i hi hx=>by
    have:=(ZN.o i (yr▸hi)).1;omega),⟨by simp[FS.new],by simp[FS.new]⟩,by simp[oW,FS.new,List.countP_replicate],fun i hi=>ZN.o i (yr▸hi),T4.o.Kb K3.o (fun i hx=>by
    rcases hx with rfl|rfl|rfl
    ·exact HG.o.am.1
    ·exact HG.o.am.2.1
    ·exact HG.o.am.2.2)⟩
 have dD:Hid (Ut w w3 g ah bh (.slice ao n cv) (.slice ao 0 cv) l 0 (FS.new g.ms.length)):=⟨HF.o,⟨K3.o.mono (fun i hx=>Or.inl hx),fun i hi=>Or.inl (by unfold dL at hi⊢;rw[yr]at hi;exact hi)⟩,rfl⟩;clear yr x3 x4 x7 y3 y4 y7 x4' y4' x7' y7' iK sJ iL lu il Zp hS;go_wp2_with fail;go_loopg [38] l.length (fun kk v wr=>∃(k:Nat) (nv:Value) (f:FS),v=GW (k:Int)/\k<=l.length/\kk=l.length-k/\Hid (Ut w wr g ah bh (.slice ao n cv) nv l k f))
 case atStart=>exact⟨0,_,_,rfl,Al _,rfl,dD⟩
 case round=>
  obtain⟨k,nv,f,rfl,hk,eE,HI⟩:=hrel;clear dD;by_cases az:k<l.length
  ·have jP:(k:Int)<(l.length:Int):=(by omega);have aB:l≠ []:=by intro e;subst e;simp at az
   obtain⟨JP,aqO⟩:=HL.o.at_ aB;subst JP;have uF:¬dL g (.slice ao n cv) lb:=uD aB;have zj:=HI.o.dt.kept;have hc:=(HL.o.kept zj (fun _=>uF)).cells k az;obtain⟨z1,z2⟩:=hc;have ht:=RJ _ (A6 az);have v_:l.drop k=l[k]::l.drop (k+1):=Bw az;obtain⟨tu,uI⟩:∃tu:Nat,(l[k]).1=(tu:Int):=⟨(l[k]).1.toNat,by omega⟩
   rw[uI]at z1;have TN:=ab v_;have T_:=ab uI;obtain⟨ts,rj⟩:∃ts,(l[k]).2=ts:=⟨_,rfl⟩
   rw[rj]at z2;have T9:=ab rj;have WY:tu<g.ms.length:=(by omega);clear zj v_ uI rj ht;have F:=(ab fun(W:World) (h:aa ai wr W)=>aiR (st:=ts) HG.o hb tu WY W nv f (HI.o.fl.new h));go_wp2_with fail;have kA:aa ai wr (wr.alloc (.cells #[GW (tu:Int),GW ts] 256)):=(aa.refl ai wr).alloc _;have Vu:=au.new wr #[GW (tu:Int),GW ts] 256;refine(F.o _ kA).mono ?_;rintro e w4 ⟨rfl,eH,h4,g4⟩;have Vv:=Vu.kept g4.kept (fun hx=>by have:=HI.o.fl.lt hx;omega);have z3:w4.cell? (GB wr.heap.size 1)=some (GW ts):=Vv.cell 1
   have e4:je g.ms ah bh (l.drop k) f=if(fU g.ms ah bh (tu:Int) ts f).2 then((fU g.ms ah bh (tu:Int) ts f).1,some ts)else je g.ms ah bh (l.drop (k+1)) (fU g.ms ah bh (tu:Int) ts f).1:=by
    rw[TN.o];conv=>lhs;unfold je
    rw[T_.o,T9.o];rfl
   have GO:cH (dL g (.slice ao n cv)) (dL g eH) w w4:=(HI.o.dt.new kA).trans g4;have c7:w4.cell? (GB g.fb 7)=some eH:=h4.aq.cell 7
   cases hr:(fU g.ms ah bh (tu:Int) ts f).2 with
   |true=>
    have aA:Hid (((bc g.ms ah bh l).2=some ts)/\w4.ownsRow 0 256 2 eH (bc g.ms ah bh l).1.length (eU (bc g.ms ah bh l).1)/\jh w4 g/\cH (dL g (.slice ao n cv)) (dL g eH) w w4/\(∀i,eH.ownBlock=some i->(i≠g.fb/\i≠g.sb/\i≠g.bb)/\¬g.cP i)/\(bc g.ms ah bh l).1.length<=g.ms.length):=by
     have e5:=HI.o.eq.trans e4;rw[hr,if_pos rfl]at e5;unfold bc;rw[e5];exact⟨rfl,h4.nx,h4.fO,GO,h4.an,by have:=h4.fw;unfold oW at this;show(fU g.ms ah bh (tu:Int) ts f).1.next.length<=_;omega⟩
    clear e4 GO h4 g4 Vu Vv F HI TN T_ T9 hr;go_wp2_with fail;go_big_quiet (fail);go_wp2_with fail;have kq:aa ai w4 (w4.drewN nq):=(aa.refl ai w4).drewN nq;exact Bm (v:=.tuple #[eH,GW ts,.bool true]) (by simp[results,results228,go_sem]) rfl ⟨eH,by rw[aA.o.1];rfl,bU aA.o.2.1 kq (fun _ _ hx=>hx),aA.o.2.2.1.new kq,aA.o.2.2.2.1.new kq,aA.o.2.2.2.2⟩
   |false=>
    have aA:Hid (Ut w w4 g ah bh (.slice ao n cv) eH l (k+1) (fU g.ms ah bh (tu:Int) ts f).1):=⟨h4,GO,by
     have e5:=HI.o.eq.trans e4;rw[hr,if_neg (by simp)]at e5;exact e5⟩
    clear e4 GO h4 g4 Vu Vv F HI TN T_ T9 hr c7 z3;go_wp2_with fail;go_roundg (l.length-(k+1))
    case measure=>omega
    case rel=>exact⟨k+1,eH,_,by simp,by omega,rfl,aA⟩
  ·have jP:¬(k:Int)<(l.length:Int):=(by omega);have c7:wr.cell? (GB g.fb 7)=some nv:=HI.o.fl.aq.cell 7
   have aA:Hid (((bc g.ms ah bh l).2=none)/\wr.ownsRow 0 256 2 nv (bc g.ms ah bh l).1.length (eU (bc g.ms ah bh l).1)/\jh wr g/\cH (dL g (.slice ao n cv)) (dL g nv) w wr/\(∀i,nv.ownBlock=some i->(i≠g.fb/\i≠g.sb/\i≠g.bb)/\¬g.cP i)/\(bc g.ms ah bh l).1.length<=g.ms.length):=by
    have e5:=HI.o.eq;rw[Eg (by omega)]at e5;unfold bc;rw[e5];exact⟨rfl,HI.o.fl.nx,HI.o.fl.fO,HI.o.dt,HI.o.fl.an,by have:=HI.o.fl.fw;unfold oW at this;show f.next.length<=_;omega⟩
   clear HI;go_wp2_with fail;exact Bm (v:=.tuple #[nv,GW 0,.bool false]) (by simp[results,results228,go_sem]) rfl ⟨nv,by rw[aA.o.1];rfl,aA.o.2⟩
def ly(eb:Nat)(g:FG)(lv sv:Value)(i:Nat):Prop:=i=eb\/dL g lv i\/sv.ownBlock=some i
structure pS(w:World)(eb:Nat)(g:FG)(ah:Int)(mt:Bool)(l:List bJ)(lv sv:Value):Prop where
 aq:au w eb #[GW g.st,BT g.fb 0,.int .i32 ah,lv,sv,.bool mt] 153
 ls:w.ownsRow 0 256 2 lv l.length (eU l)
 sp:∃n xs,w.ownsRow 0 256 2 sv n xs
 fO:jh w g
 bN:l.length<=g.ms.length
 aX:∀t∈l,0<=t.1/\t.1<g.ms.length
 ae:(eb≠g.fb/\eb≠g.sb/\eb≠g.bb)/\¬g.cP eb
 rN:∀i,lv.ownBlock=some i->((i≠g.fb/\i≠g.sb/\i≠g.bb)/\¬g.cP i)/\i≠eb
 vE:∀i,sv.ownBlock=some i->((i≠g.fb/\i≠g.sb/\i≠g.bb)/\¬g.cP i)/\i≠eb
 zB:∀i,lv.ownBlock=some i->sv.ownBlock≠some i
theorem pS.kept(h:pS w eb g ah mt l lv sv)(k:aa K w w')(hK:∀i,K i->¬ly eb g lv sv i/\¬g.cP i):pS w' eb g ah mt l lv sv:=by
 obtain⟨n,xs,hs⟩:=h.sp;exact⟨h.aq.kept k (fun hx=>(hK _ hx).1 (Or.inl rfl)),bU h.ls k (fun i hi hx=>(hK _ hx).1 (Or.inr (Or.inl (Or.inr hi)))),⟨n,xs,bU hs k (fun i hi hx=>(hK _ hx).1 (Or.inr (Or.inr hi)))⟩,h.fO.kept k (fun i hx=>⟨fun hy=>(hK _ hx).1 (Or.inr (Or.inl (Or.inl hy))),(hK _ hx).2⟩),h.bN,h.aX,h.ae,h.rN,h.vE,h.zB⟩
theorem pS.ON{w7:World}{dp:Value}(bD:0<=g.st/\g.st<g.ms.length)(h:pS w eb g ah mt l lv sv)(k0:aa ai w W)(bC:w7.ownsRow 0 256 2 dp (l.length+1) (eU l++[GW g.st,GW p]))(dM:W.grownBy w7 lv.ownBlock)(cI:dp.ownBlock=lv.ownBlock\/dp.ownBlock=some W.heap.size):
 (w7.cell? (GB eb 3)=some lv/\w7.cell? (GB eb 0)=some (GW g.st)/\w7.frozen? (GB eb 3)=false)/\
 (au (w7.setCell (GB eb 3) dp) eb #[GW g.st,BT g.fb 0,.int .i32 ah,dp,sv,.bool mt] 153/\(w7.setCell (GB eb 3) dp).ownsRow 0 256 2 dp (l++[(g.st,p)]).length (eU (l++[(g.st,p)]))/\(∃n xs,(w7.setCell (GB eb 3) dp).ownsRow 0 256 2 sv n xs)/\jh (w7.setCell (GB eb 3) dp) g/\(∀i,dp.ownBlock=some i->((i≠g.fb/\i≠g.sb/\i≠g.bb)/\¬g.cP i)/\i≠eb/\sv.ownBlock≠some i))/\cH (ly eb g lv sv) (ly eb g dp sv) w (w7.setCell (GB eb 3) dp):=by
 have k7:aa (fun i=>lv.ownBlock=some i) w w7:=(k0.mono (fun i hx=>hx.elim)).eP dM (fun j hj=>Or.inl hj);have kf:aa (fun i=>i=eb) w7 (w7.setCell (GB eb 3) dp):=(aa.refl (fun i=>i=eb) w7).setCell (p:=(GB eb 3)) (Or.inl rfl) _;have b7:=h.aq.kept k7 (fun hx=>(h.rN _ hx).2 rfl);have JX:w.heap.size<=W.heap.size:=k0.size;obtain⟨n,xs,hs⟩:=h.sp
 have lZ:∀i,dp.ownBlock=some i->lv.ownBlock=some i\/w.heap.size<=i:=fun i hi=>by
  rcases cI with hl|hl
  ·exact Or.inl (hl▸hi)
  ·rw[hl]at hi;cases hi;right;exact JX
 obtain⟨_,_,_,s1,b1,hB,⟨hS,_⟩,⟨BU,_⟩⟩:=h.fO.ex
 have Hq:∀i,dp.ownBlock=some i->((i≠g.fb/\i≠g.sb/\i≠g.bb)/\¬g.cP i)/\i≠eb/\sv.ownBlock≠some i:=fun i hi=>by
  rcases lZ i hi with h1|h1
  ·exact⟨(h.rN i h1).1,(h.rN i h1).2,h.zB i h1⟩
  ·have f1:=hB.lt;have f2:=hS.lt;have f3:=BU.lt;have f4:=h.aq.lt;refine⟨⟨⟨by omega,by omega,by omega⟩,fun hx=>?_⟩,by omega,fun hx=>?_⟩
   ·have m1:=h.fO.ma.iz.lt;have m2:=h.fO.ma.le;have m3:=h.fO.ma.jS.lt;rcases hx with(hx|hx)|(hx|hx)<;>omega
   ·have:=(dw hs hx).2;omega
 refine⟨⟨b7.cell 3,b7.cell 0,b7.frozen 3⟩,⟨?_,?_,⟨n,xs,?_⟩,?_,Hq⟩,⟨?_,fun i hi=>?_⟩⟩
 ·have:=b7.setCell 3 dp;simpa using this
 ·rw[Aj,YT];exact bU bC kf (fun i hi hx=>(Hq i hi).2.1 hx)
 ·exact bU (bU hs k7 (fun i hi hx=>h.zB i hx hi)) kf (fun i hi hx=>(h.vE i hi).2 hx)
 ·refine(h.fO.kept k7 (fun i hx=>⟨fun hy=>?_,(h.rN i hx).1.2⟩)).kept kf (fun i hx=>⟨fun hy=>?_,by rw[hx];exact h.ae.2⟩)
  ·have:=(h.rN i hx).1.1;omega
  ·have:=h.ae.1;omega
 ·exact(k7.mono (fun i hi=>Or.inr (Or.inl (Or.inr hi)))).trans (kf.mono (fun i hi=>Or.inl hi))
 ·rcases hi with hi|(hi|hi)|hi
  ·exact Or.inl (Or.inl hi)
  ·exact Or.inl (Or.inr (Or.inl (Or.inl hi)))
  ·rcases lZ i hi with h1|h1
   ·exact Or.inl (Or.inr (Or.inl (Or.inr h1)))
   ·exact Or.inr h1
  ·exact Or.inl (Or.inr (Or.inr hi))
theorem aja(h:pS w eb g ah mt l lv sv):
 Calls prog 225 #[BT eb 0] w fun e w'=>e=.returned (.tuple #[GW ((l.head?.map (·.2)).getD 0),.bool (!l.isEmpty)])/\w'=w:=by
 obtain⟨b,a,c,hv,hT,_⟩:=pX.of h.ls;subst hv;have c3:w.cell? (GB eb 3)=some (.slice a l.length c):=h.aq.cell 3
 cases l with
 |nil=>
  simp only[Bf]at c3;clear h hT;go_in;go_wp2_with fail;exact Bm (v:=.tuple #[GW 0,.bool false]) (by simp[results,results225,go_sem]) rfl ⟨rfl,rfl⟩
 |cons t ts=>
  obtain⟨ha,_⟩:=hT.at_ (by simp);subst ha;have z:=(hT.cells 0 (by simp)).2;simp only[Ah,Eo,Ba]at z;obtain⟨n,hn⟩:∃n,n=(t::ts).length:=⟨_,rfl⟩
  rw[<-hn]at c3;have Nl:(n:Int)≠0:=by rw[hn];simp;omega
  have pE:¬(n:Int)<=0:=by omega
  have jZ:((n:Int)==0)=false:=by simpa using Nl
  clear h hT hn;go_in;go_wp2_with fail;exact Bm (v:=.tuple #[GW t.2,.bool true]) (by simp[results,results225,go_sem]) rfl ⟨rfl,rfl⟩
def EbS(eb:Nat)(lv:Value)(W:World):Prop:=W.cell? (GB eb 3)=some lv
theorem ai9{kj:Int}(h:pS w eb g ah mt l lv sv):
 Calls prog 224 #[BT eb 0,.int .i32 kj] w fun e w'=>e=.returned (.tuple #[])/\∃dp,pS w' eb g kj false [] dp sv/\cH (ly eb g lv sv) (ly eb g dp sv) w w':=by
 obtain⟨ao,c,hv⟩:=cw h.ls;obtain⟨n,hn⟩:∃n,n=l.length:=⟨_,rfl⟩
 rw[<-hn]at hv;subst hv;have HH:=ab h;have HN:=ab hn;have B0:=ab h.aq;have c3:w.cell? (GB eb 3)=some (.slice ao n c):=h.aq.cell 3;clear h hn;go_in;go_wp2_with fail;have ak:EbS eb (.slice ao n c) w.drew:=c3;have x2:=B0.o.cell 2;have y2:=B0.o.frozen 2;refine Cl (by kernel_rfl) (Ci (S:=fun _=>True) _ _ _ _ ?_);refine aj 0 4 (BT eb 0) trivial ?_;refine aj 1 5 (BT eb 0) trivial ?_;refine aj 2 6 (BT eb 0) trivial ?_;refine aj 3 7 (.int .i32 kj) trivial ?_;refine aj 4 8 (BT eb 0) trivial ?_;refine aj 5 9 (BT eb 0) trivial ?_;refine aj 6 10 (BT eb 3) trivial ?_;simp only[Act.put,Aa,Ad,Ac];refine bR 7 fun K hK=>?_
 go_simp;refine hK.o _ _ trivial (fun _=>?_);clear hK K;refine aj 8 12 (.slice ao 0 c) trivial ?_;refine aj 9 13 (BT eb 0) trivial ?_;refine aj 10 14 (BT eb 2) trivial ?_;simp only[Act.put,Aa,Ad,Ac];refine bR 11 fun K hK=>?_
 go_simp;refine hK.o _ _ trivial (fun _=>?_);clear hK K;refine aj 12 15 (BT eb 0) trivial ?_;refine aj 13 16 (BT eb 3) trivial ?_;simp only[Act.put,Aa,Ad,Ac];refine bR 14 fun K hK=>?_
 have x3:(w.setCell (GB eb 2) (.int .i32 kj)).cell? (GB eb 3)=some (.slice ao n c):=(B0.o.setCell 2 (.int .i32 kj)).cell 3;have y3:=(B0.o.setCell 2 (.int .i32 kj)).frozen 3;go_simp;refine hK.o _ _ trivial (fun _=>?_);clear hK K;refine aj 15 17 (BT eb 0) trivial ?_;refine aj 16 18 (BT eb 5) trivial ?_;simp only[Act.put,Aa,Ad,Ac];refine bR 17 fun K hK=>?_
 have x5:((w.setCell (GB eb 2) (.int .i32 kj)).setCell (GB eb 3) (.slice ao 0 c)).cell? (GB eb 5)=some (.bool mt):=((B0.o.setCell 2 (.int .i32 kj)).setCell 3 (.slice ao 0 c)).cell 5;have y5:=((B0.o.setCell 2 (.int .i32 kj)).setCell 3 (.slice ao 0 c)).frozen 5;go_simp;refine hK.o _ _ trivial (fun _=>?_);clear hK K;refine At (by kernel_rfl) ?_ _
 have B3:Hid (au ((((w.setCell (GB eb 2) (.int .i32 kj)).setCell (GB eb 3) (.slice ao 0 c)).setCell (GB eb 5) (.bool false)).drew) eb #[GW g.st,BT g.fb 0,.int .i32 kj,.slice ao 0 c,sv,.bool false] 153):=by
  have:=((B0.o.setCell 2 (.int .i32 kj)).setCell 3 (.slice ao 0 c)).setCell 5 (.bool false);simp only[Aa,Ad,Ac]at this;exact this
 have K3:Hid (aa (fun i=>i=eb) w ((((w.setCell (GB eb 2) (.int .i32 kj)).setCell (GB eb 3) (.slice ao 0 c)).setCell (GB eb 5) (.bool false)).drew)):=((((aa.refl (fun i=>i=eb) w).setCell (p:=(GB eb 2)) (Or.inl rfl) _).setCell (p:=(GB eb 3)) (Or.inl rfl) _).setCell (p:=(GB eb 5)) (Or.inl rfl) _).drew;generalize((((w.setCell (GB eb 2) (.int .i32 kj)).setCell (GB eb 3) (.slice ao 0 c)).setCell (GB eb 5) (.bool false)).drew)=w3 at*
 have aA:Hid (pS w3 eb g kj false [] (.slice ao 0 c) sv/\cH (ly eb g (.slice ao n c) sv) (ly eb g (.slice ao 0 c) sv) w w3):=by
  have yr:(Value.slice ao 0 c).ownBlock=(Value.slice ao n c).ownBlock:=by cases ao<;>rfl
  have h:=HH.o;obtain⟨m,xs,hs⟩:=h.sp;have tn:=h.ls;rw[<-HN.o]at tn;refine⟨⟨B3.o,bU (X4 tn) K3.o (fun i hi hx=>(h.rN i (yr▸hi)).2 hx),⟨m,xs,bU hs K3.o (fun i hi hx=>(h.vE i hi).2 hx)⟩,h.fO.kept K3.o (fun i hx=>⟨fun hy=>?_,by rw[hx];exact h.ae.2⟩),Al _,fun t ht=>(by cases ht),h.ae,fun i hi=>h.rN i (yr▸hi),h.vE,fun i hi=>h.zB i (yr▸hi)⟩,⟨K3.o.mono (fun i hx=>Or.inl hx),fun i hi=>Or.inl ?_⟩⟩
  ·have:=h.ae.1;omega
  ·unfold ly dL at hi⊢;rw[yr]at hi;exact hi
 clear x2 y2 x3 y3 x5 y5 c3 ak B3 K3 HH B0;go_wp2_with fail;go_end0;exact⟨rfl,_,aA.o.1,aA.o.2⟩
def O_(eb:Nat)(g:FG)(ah:Int)(lv sv:Value)(W:World):Prop:=(W.cell? (GB eb 0)=some (GW g.st)/\W.cell? (GB eb 1)=some (BT g.fb 0))/\W.cell? (GB eb 2)=some (.int .i32 ah)/\W.cell? (GB eb 3)=some lv/\W.cell? (GB eb 4)=some sv
def Ty(eb:Nat)(g:FG)(lv:Value)(W:World):Prop:=W.cell? (GB eb 3)=some lv/\W.cell? (GB eb 0)=some (GW g.st)
structure DZ(w:World)(eb:Nat)(g:FG)(ah:Int)(mt:Bool)(l:List bJ)(lv sv:Value):Prop where
 aq:au w eb #[GW g.st,BT g.fb 0,.int .i32 ah,lv,sv,.bool mt] 153
 ls:w.ownsRow 0 256 2 lv l.length (eU l)
 sp:∃n xs,w.ownsRow 0 256 2 sv n xs
 fO:jh w g
 bN:l.length<=g.ms.length+1
 aX:∀t∈l,0<=t.1/\t.1<g.ms.length
 ae:(eb≠g.fb/\eb≠g.sb/\eb≠g.bb)/\¬g.cP eb
 rN:∀i,lv.ownBlock=some i->((i≠g.fb/\i≠g.sb/\i≠g.bb)/\¬g.cP i)/\i≠eb
 vE:∀i,sv.ownBlock=some i->((i≠g.fb/\i≠g.sb/\i≠g.bb)/\¬g.cP i)/\i≠eb
 zB:∀i,lv.ownBlock=some i->sv.ownBlock≠some i
theorem DZ.cells(h:DZ w eb g ah mt l lv sv)(k:aa ai w W):O_ eb g ah lv sv W:=by
 have:=h.aq.kept k (fun hx=>hx);exact⟨⟨this.cell 0,this.cell 1⟩,this.cell 2,this.cell 3,this.cell 4⟩
theorem DZ.ao_{w4:World}{next:List bJ}(h:DZ w eb g ah mt l lv sv)(dn:Bool)
 (hn:w4.ownsRow 0 256 2 nv next.length (eU next))(hI:jh w4 g)(hG:cH (dL g sv) (dL g nv) w w4)(hna:∀i,nv.ownBlock=some i->(i≠g.fb/\i≠g.sb/\i≠g.bb)/\¬g.cP i)(hf:next.length<=g.ms.length)(ht:∀t∈next,0<=t.1/\t.1<g.ms.length):
 au w4 eb #[GW g.st,BT g.fb 0,.int .i32 ah,lv,sv,.bool mt] 153/\
 ∀w5,au w5 eb #[GW g.st,BT g.fb 0,.int .i32 bh,nv,lv,.bool (mt||dn)] 153->aa (fun i=>i=eb) w4 w5->pS w5 eb g bh (mt||dn) next nv lv/\cH (ly eb g lv sv) (ly eb g nv lv) w w5:=by
 have aB:¬dL g sv eb:=fun hx=>by
  rcases hx with hx|hx
  ·have:=h.ae.1;omega
  ·exact(h.vE _ hx).2 rfl
 have b4:=h.aq.kept hG.kept aB;have az:=h.aq.lt
 have l7:∀i,nv.ownBlock=some i->sv.ownBlock=some i\/w.heap.size<=i:=fun i hi=>by
  rcases hG.aq i (Or.inr hi)with(h1|h1)|h1
  ·have:=(hna i hi).1;omega
  ·exact Or.inl h1
  ·exact Or.inr h1
 have ajW:w4.ownsRow 0 256 2 lv l.length (eU l):=bU h.ls hG.kept (fun i hi hx=>by
  rcases hx with hx|hx
  ·have:=(h.rN i hi).1.1;omega
  ·exact h.zB i hi hx)
 refine⟨b4,fun w5 hB k5=>⟨⟨hB,bU hn k5 (fun i hi hx=>?_),⟨_,_,bU ajW k5 (fun i hi hx=>(h.rN i hi).2 hx)⟩,hI.kept k5 (fun i hx=>⟨fun hy=>?_,by rw[hx];exact h.ae.2⟩),hf,ht,h.ae,fun i hi=>⟨hna i hi,?_⟩,h.rN,fun i hi hx=>?_⟩,⟨?_,fun i hi=>?_⟩⟩⟩
 ·rcases l7 i hi with h1|h1
  ·exact(h.vE i h1).2 hx
  ·omega
 ·have:=h.ae.1;omega
 ·rcases l7 i hi with h1|h1
  ·exact(h.vE i h1).2
  ·omega
 ·rcases l7 i hi with h1|h1
  ·exact h.zB i hx h1
  ·have:=(dw h.ls hx).2;omega
 ·exact(hG.kept.mono (fun i hx=>by rcases hx with hx|hx;exact Or.inr (Or.inl (Or.inl hx));exact Or.inr (Or.inr hx))).trans (k5.mono (fun i hx=>Or.inl hx))
 ·rcases hi with hi|(hi|hi)|hi
  ·exact Or.inl (Or.inl hi)
  ·exact Or.inl (Or.inr (Or.inl (Or.inl hi)))
  ·rcases l7 i hi with h1|h1
   ·exact Or.inl (Or.inr (Or.inr h1))
   ·exact Or.inr h1
  ·exact Or.inl (Or.inr (Or.inl (Or.inr hi)))
theorem LX(b j:Nat):((GB b 0):Addr).add j=(GB b j):=by unfold Addr.add;split<;>simp_all
def FH(n:Nat)(f:FS):Prop:=∀t∈f.next,0<=t.1/\t.1<n
theorem apj{m:MS}{st:Int}(h:FH n f)(hm:0<=m.next/\m.next<n):FH n (ny m bh st f):=by
 unfold ny;split
 ·intro t ht;rcases Ap.1 ht with ht|ht
  ·exact h t ht
  ·simp only[Bq]at ht;rw[ht];exact hm
 ·exact h
theorem Va(hg:fg ms)(ah bh:Int):∀(d:Nat) (u st:Int) (f:FS),FH ms.length f->FH ms.length (gH ms ah bh d u st f).1
 |0,_,_,_,h=>h
 |d+1,u,st,f,h=>by
  have IH:=Va hg ah bh d;have hM:FH ms.length ⟨f.seen.set u.toNat true,f.dO,f.next⟩:=h;unfold gH;split
  ·exact h
  ·split
   ·exact h
   ·rename_i m hm
    obtain⟨_,g1,_,_⟩:=hg _ m hm;split
    ·exact h
    ·split
     ·rename_i k1
      exact apj hM (g1 k1)
     ·split
      ·split
       ·exact IH _ _ _ hM
       ·exact hM
      ·split
       ·exact IH _ _ _ hM
       ·split
        ·exact IH _ _ _ hM
        ·exact IH _ _ _ (IH _ _ _ hM)
theorem afz(hg:fg ms)(ah bh:Int):∀(l:List bJ) (f:FS),FH ms.length f->FH ms.length (je ms ah bh l f).1
 | [],f,h=>h
 |t::ts,f,h=>by
  unfold je;split
  ·exact Va hg ah bh _ _ _ _ h
  ·exact afz hg ah bh ts _ (Va hg ah bh _ _ _ _ h)
theorem SX(hg:fg ms)(ah bh:Int)(l:List bJ):∀t∈ (bc ms ah bh l).1,0<=t.1/\t.1<ms.length:=afz hg ah bh l _ (fun t ht=>by cases ht)
def uU(g:FG)(p:Int)(mt:Bool)(l:List bJ):List bJ:=if mt then l else l++[(g.st,p)]
theorem ajf(hg:g.Ok)(bD:0<=g.st/\g.st<g.ms.length)(hb:0<=bh/\bh<=1114111)(h:pS w eb g ah mt l lv sv):
 Calls prog 227 #[BT eb 0,GW p,.int .i32 bh] w fun e w'=>e=.returned (.tuple #[GW ((bc g.ms ah bh (uU g p mt l)).2.getD 0),.bool (bc g.ms ah bh (uU g p mt l)).2.isSome])/\∃dp yk,pS w' eb g bh (mt||(bc g.ms ah bh (uU g p mt l)).2.isSome) (bc g.ms ah bh (uU g p mt l)).1 dp yk/\cH (ly eb g lv sv) (ly eb g dp yk) w w':=by
 have HH:=ab h;have HG:=ab hg;have lS:=ab bD;have c5:w.cell? (GB eb 5)=some (.bool mt):=h.aq.cell 5;clear h hg bD;go_in;go_upto_if 13 with fail
 go_cut [6] (fun s6 wx=>s6=GW 0/\∃wH,Hid (DZ wx eb g ah mt (uU g p mt l) wH sv)/\Hid (cH (ly eb g lv sv) (ly eb g wH sv) w wx))
 case first=>
  cases mt with
  |true=>
   have h:=HH.o;have aA:Hid (DZ w eb g ah true (uU g p true l) lv sv):=⟨h.aq,h.ls,h.sp,h.fO,Nat.le_succ_of_le h.bN,h.aX,h.ae,h.rN,h.vE,h.zB⟩;clear h HH HG lS;go_wp2_with fail;go_meet
   case rel=>exact⟨rfl,lv,aA,cH.refl _ _⟩
  |false=>
   obtain⟨ao,cn,Hm⟩:=cw HH.o.ls
   have PA:Hid (∀W w7 dp,aa ai w W->w7.ownsRow 0 256 2 dp (l.length+1) (eU l++[GW g.st,GW p])->W.grownBy w7 lv.ownBlock->(dp.ownBlock=lv.ownBlock\/dp.ownBlock=some W.heap.size)->Ty eb g lv w7/\w7.frozen? (GB eb 3)=false/\DZ (w7.setCell (GB eb 3) dp) eb g ah false (uU g p false l) dp sv/\cH (ly eb g lv sv) (ly eb g dp sv) w (w7.setCell (GB eb 3) dp)):=fun W w7 dp k0 bC dM cI=>by
    have h:=HH.o;obtain⟨⟨q1,q2,q3⟩,⟨r1,r2,r3,r4,r5⟩,r6⟩:=h.ON lS.o k0 bC dM cI;refine⟨⟨q1,q2⟩,q3,⟨r1,r2,r3,r4,?_,fun t ht=>?_,h.ae,fun i hi=>⟨(r5 i hi).1,(r5 i hi).2.1⟩,h.vE,fun i hi=>(r5 i hi).2.2⟩,r6⟩
    ·have:=h.bN;show(l++[(g.st,p)]).length<=_
     rw[Aj];simp;omega
    ·rcases Ap.1 (show t∈l++[(g.st,p)]from ht)with ht|ht
     ·exact h.aX t ht
     ·simp only[Bq]at ht;rw[ht];exact lS.o
   have S2:Hid (∀W,aa ai w W->Ty eb g lv W):=fun W k=>by
    have:=HH.o.aq.kept k (fun hx=>hx);exact⟨this.cell 3,this.cell 0⟩
   have oe:Hid (∀W,aa ai w W->W.ownsRow 0 256 2 lv l.length (eU l)):=(fun W k=>bU HH.o.ls k (fun i _ hx=>hx));have pB:l.length<=4001:=by have:=HH.o.bN;have:=HG.o.bN;omega
   obtain⟨i0,cW,dm,du,de⟩:=Bo Tryz.Xk;subst Hm;clear HH HG lS;go_wp2_with fail;refine gD (S:=Ty eb g (.slice ao l.length cn)) 15 (by kernel_rfl) rfl rfl rfl (by kernel_rfl) (by kernel_rfl) ?_;have cF:=S2.o w.drew (aa.refl _ _).drew;refine aj 0 14 (BT eb 0) cF ?_;refine aj 1 15 (BT eb 0) cF ?_;refine aj 2 16 (BT eb 0) cF ?_;refine aj 3 17 (BT eb 3) cF ?_;refine aj 4 18 (.slice ao l.length cn) cF ?_;refine aj 5 19 (BT eb 0) cF ?_;refine aj 6 20 (BT eb 0) cF ?_;refine aj 7 21 (BT eb 0) cF ?_;refine aj 8 22 (GW g.st) cF ?_;refine aj 9 23 (GW p) cF ?_;refine aj 10 24 (.agg #[GW g.st,GW p]) cF ?_;simp only[Act.put,Aa,Ad,Ac];refine bR 11 fun K hK=>?_
   go_simp;have kA:aa ai w (w.alloc (.cells #[GW g.st,GW p] 256)).drew:=((aa.refl ai w).alloc _).drew;refine hK.o _ _ (S2.o _ kA) (fun _=>?_);clear hK K;refine bR 12 fun K hK=>?_
   refine SY rfl (.tmp 18) (.tmp 25) 151 rfl 0 256 i0 _ 2 16 underlying151 cW dm du de rfl (by decide) _ _ _ rfl (oe.o _ kA) (GB w.heap.size 0) 1 1 [GW g.st,GW p] rfl rfl ?nw (Te _ _) (by unfold maxLen;omega) (by omega) (Al _) ?_
   case nw=>
    intro j v hv;have hB:=au.new w #[GW g.st,GW p] 256;rw[LX];exact(hB.cell j).trans (by simpa using hv)
   intro v' w7 ho dM cI;obtain⟨jl,c',rfl⟩:=cw ho;obtain⟨s7,f7,p1,p2⟩:=PA.o _ _ _ kA ho dM cI;refine hK.o _ _ s7 (fun vS=>?_);have c7:=vS.1;clear hK K;have P1:=ab p1;have P2:=ab p2;refine aj 13 27 (BT eb 0) vS ?_;refine aj 14 28 (BT eb 3) vS ?_;simp only[Act.put,Aa,Ad,Ac];refine At (by kernel_rfl) ?_ _;unfold eo;simp only[Ak,Ag,Ah];go_simp;go_wp2_with fail;go_meet
   case rel=>exact⟨rfl,_,P1,P2⟩
 case rest=>
  obtain⟨rfl,wH,HN,oY⟩:=hcut;clear HH c5;have SN:Hid (∀W,aa ai wc W->O_ eb g ah wH sv W):=fun W k=>HN.o.cells k
  obtain⟨b1,a1,qK,mI,VM,WG⟩:=pX.of HN.o.ls;obtain⟨n2,xs2,gg⟩:=HN.o.sp;have agk:Hid (uU g p mt l=uU g p mt l):=(rfl:_=_);generalize hL:uU g p mt l=L at*
  have F:Hid (∀W,aa ai wc W->Calls prog 228 #[BT g.fb 0,.slice a1 L.length qK,sv,.int .i32 ah,.int .i32 bh] W fun e w'=>∃nv,e=.returned (.tuple #[nv,GW ((bc g.ms ah bh L).2.getD 0),.bool (bc g.ms ah bh L).2.isSome])/\w'.ownsRow 0 256 2 nv (bc g.ms ah bh L).1.length (eU (bc g.ms ah bh L).1)/\jh w' g/\cH (dL g sv) (dL g nv) W w'/\(∀i,nv.ownBlock=some i->(i≠g.fb/\i≠g.sb/\i≠g.bb)/\¬g.cP i)/\(bc g.ms ah bh L).1.length<=g.ms.length):=fun W k=>by
   have h:=HN.o;refine ab4 HG.o (h.fO.new k) hb (VM.kept k (fun _ hx=>hx)) (fun aB hx=>?_) h.aX (by have:=h.bN;have:=HG.o.bN;omega) (bU gg k (fun _ _ hx=>hx)) (fun i hi=>(h.vE i hi).1) (by have:=lS.o;omega);have kD:=WG aB;rcases hx with hx|hx
   ·have:=(h.rN _ kD).1.1;omega
   ·exact h.zB _ kD hx
  subst mI
  have STP:Hid (∀W w4 nv,aa ai wc W->w4.ownsRow 0 256 2 nv (bc g.ms ah bh L).1.length (eU (bc g.ms ah bh L).1)->jh w4 g->cH (dL g sv) (dL g nv) W w4->(∀i,nv.ownBlock=some i->(i≠g.fb/\i≠g.sb/\i≠g.bb)/\¬g.cP i)->(bc g.ms ah bh L).1.length<=g.ms.length->au w4 eb #[GW g.st,BT g.fb 0,.int .i32 ah,.slice a1 L.length qK,sv,.bool mt] 153/\∀w5,au w5 eb #[GW g.st,BT g.fb 0,.int .i32 bh,nv,.slice a1 L.length qK,.bool (mt||(bc g.ms ah bh L).2.isSome)] 153->aa (fun i=>i=eb) w4 w5->pS w5 eb g bh (mt||(bc g.ms ah bh L).2.isSome) (bc g.ms ah bh L).1 nv (.slice a1 L.length qK)/\cH (ly eb g lv sv) (ly eb g nv (.slice a1 L.length qK)) w w5):=fun W w4 nv k q1 q2 q3 q4 q5=>by
   have nT:cH (dL g sv) (dL g nv) wc w4:=(cH.of k (fun i hi=>Or.inl hi)).trans q3;obtain⟨r1,r2⟩:=HN.o.ao_ (bh:=bh) (bc g.ms ah bh L).2.isSome q1 q2 nT q4 q5 (SX HG.o.fJ ah bh L);exact⟨r1,fun w5 s1 s2=>⟨(r2 w5 s1 s2).1,oY.o.trans (r2 w5 s1 s2).2⟩⟩
  generalize QX:(bc g.ms ah bh L).2.getD 0=d0 at*
  generalize MO:(bc g.ms ah bh L).2.isSome=d1 at*
  obtain⟨Jf,c2,nV⟩:=cw gg;subst nV;have HL:=ab hL;have HR1:=ab QX;have qE:=ab MO;clear VM WG gg HN oY HG lS agk hL QX MO;go_wp2_with fail;refine j_ (Cl (by kernel_rfl) (Ci (S:=O_ eb g ah (.slice a1 L.length qK) (.slice Jf n2 c2)) _ _ _ _ ?_));have ak:=SN.o wc.drew (aa.refl _ _).drew;refine aj 0 30 (BT eb 0) ak ?_;refine aj 1 31 (BT eb 0) ak ?_;refine aj 2 32 (BT eb 1) ak ?_;refine aj 3 33 (BT g.fb 0) ak ?_;refine aj 4 34 (BT eb 0) ak ?_;refine aj 5 35 (BT eb 0) ak ?_;refine aj 6 36 (BT eb 3) ak ?_;refine aj 7 37 (.slice a1 L.length qK) ak ?_;refine aj 8 38 (BT eb 0) ak ?_;refine aj 9 39 (BT eb 0) ak ?_;refine aj 10 40 (BT eb 4) ak ?_;refine aj 11 41 (.slice Jf n2 c2) ak ?_;refine aj 12 42 (BT eb 0) ak ?_;refine aj 13 43 (BT eb 0) ak ?_;refine aj 14 44 (BT eb 2) ak ?_;refine aj 15 45 (.int .i32 ah) ak ?_;refine aj 16 46 (.int .i32 bh) ak ?_;simp only[Act.put,Aa,Ad,Ac];refine bR 17 fun K hK=>?_
  go_simp;refine(F.o _ (aa.refl _ _).drew).mono ?_;rintro e w4 ⟨nv,rfl,q1,q2,q3,q4,q5⟩;dsimp only;obtain⟨b4,acJ⟩:=STP.o _ w4 nv (aa.refl _ _).drew q1 q2 q3 q4 q5;have cF:O_ eb g ah (.slice a1 L.length qK) (.slice Jf n2 c2) w4:=⟨⟨b4.cell 0,b4.cell 1⟩,b4.cell 2,b4.cell 3,b4.cell 4⟩;refine hK.o _ _ cF (fun _=>?_);clear hK K;obtain⟨fY,c3,lj⟩:=cw q1;generalize(bc g.ms ah bh L).1.length=n3 at lj;subst lj;have jU:=ab b4;have aad:=ab acJ;clear b4 acJ q1 q2 q3 q4 q5 F STP SN;refine aj 18 29 (.tuple #[.slice fY n3 c3,GW d0,.bool d1]) cF ?_;refine aj 19 48 (.slice fY n3 c3) cF ?_;refine aj 20 49 (GW d0) cF ?_;refine aj 21 50 (.bool d1) cF ?_;refine aj 22 8 (.slice fY n3 c3) cF ?_;refine aj 23 6 (GW d0) cF ?_;refine aj 24 7 (.bool d1) cF ?_;simp only[Act.put,Aa,Ad,Ac];refine At (by kernel_rfl) ?_ _;refine jE ?_;have x2:w4.cell? (GB eb 2)=some (.int .i32 ah):=jU.o.cell 2;have x3:w4.cell? (GB eb 3)=some (.slice a1 L.length qK):=jU.o.cell 3;have x4:w4.cell? (GB eb 4)=some (.slice Jf n2 c2):=jU.o.cell 4;have x5:w4.cell? (GB eb 5)=some (.bool mt):=jU.o.cell 5;have y2:=jU.o.frozen 2;have y3:=jU.o.frozen 3;have y4:=jU.o.frozen 4;have y5:=jU.o.frozen 5
  have aA:Hid (∀d2,d2=(mt||d1)->pS ((((w4.setCell (GB eb 3) (.slice fY n3 c3)).setCell (GB eb 4) (.slice a1 L.length qK)).setCell (GB eb 2) (.int .i32 bh)).setCell (GB eb 5) (.bool d2)) eb g bh (mt||d1) (bc g.ms ah bh L).1 (.slice fY n3 c3) (.slice a1 L.length qK)/\cH (ly eb g lv (.slice Jf n2 c2)) (ly eb g (.slice fY n3 c3) (.slice a1 L.length qK)) w ((((w4.setCell (GB eb 3) (.slice fY n3 c3)).setCell (GB eb 4) (.slice a1 L.length qK)).setCell (GB eb 2) (.int .i32 bh)).setCell (GB eb 5) (.bool d2))):=fun d2 hd=>by
   subst hd;refine aad.o _ ?_ (((((aa.refl (fun i=>i=eb) w4).setCell (p:=(GB eb 3)) (Or.inl rfl) _).setCell (p:=(GB eb 4)) (Or.inl rfl) _).setCell (p:=(GB eb 2)) (Or.inl rfl) _).setCell (p:=(GB eb 5)) (Or.inl rfl) _);have:=(((jU.o.setCell 3 (.slice fY n3 c3)).setCell 4 (.slice a1 L.length qK)).setCell 2 (.int .i32 bh)).setCell 5 (.bool (mt||d1));simp only[Aa,Ad,Ac]at this;exact this
  clear jU aad ak cF
  cases mt
  all_goals
   go_wp2_with fail
   exact Bm (v:=.tuple #[GW d0,.bool d1]) (by simp[results,results227,go_sem]) rfl ⟨by rw[HL.o,HR1.o,qE.o],.slice fY n3 c3,.slice a1 L.length qK,by rw[HL.o,qE.o];first|exact aA.o d1 (by simp)|exact aA.o true (by simp)⟩
