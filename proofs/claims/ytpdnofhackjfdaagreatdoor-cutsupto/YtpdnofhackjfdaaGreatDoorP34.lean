/- Package marks -/
import Derived.Test.YtpdnofhackjfdaaGreatDoorP33
set_option linter.all false
set_option maxRecDepth 100000
set_option maxHeartbeats 4000000
namespace Go.Proofs.YtpdnofhackjfdaaGreatDoor
open Go.Proofs.Tryz
open Go.RowKit Go.Maps
variable {cs:Array Value} {ed:Bool} {D:DataW Unit} {mo st:Int} {ms:List MS} {r s:dq} {b base c j mp n p pb q:Nat} {T:Nat->Option dq} {K:Nat->Prop} {a:Option Addr} {t:TypeId} {cl fo mk nw v:Value} {w w':World}
theorem Zy(w:World)(c:Int):Calls prog 126 #[.int .i32 c] w fun e w'=>e=.returned (.int .i32 (pW c))/\w'=w:=by
 by_cases h:c= -1
 ·subst h;exact ano w
 ·have hb:(c== -1)=false:=by simpa using h
  have F:=ab fun(W:World)=>VJ W c
  have e:pW c=if kD c then 119 else 32:=by unfold pW;rw[if_neg h]
  rw[e];obtain⟨wd,pQ⟩:∃wd,kD c=wd:=⟨_,rfl⟩
  rw[pQ]at F⊢;clear e pQ;go_in;go_wp2_with fail;refine(F.out _).mono ?_;rintro e w1 ⟨rfl,rfl⟩
  cases wd
  ·go_wp2_with fail
   go_ret
   exact⟨rfl,rfl⟩
  ·go_wp2_with fail
   go_ret
   exact⟨rfl,rfl⟩
theorem acx{c:Int}(h:aq w b (pG st fo (oW ms) cl mo mp nw mk) 159):
 Calls prog 102 #[.pointer (some ⟨b,0,none⟩),.int .i32 c] w fun e w'=>e=.returned (.int .i32 (jJ ms c))/\w'=w:=by
 have c2:w.cell? ⟨b,2,none⟩=some (.bool (oW ms)):=h.cell 2;have F:=ab fun(W:World)=>Zy W c
 clear h;unfold jJ
 cases he:oW ms
 ·rw[he]at c2;go_in;go_wp2_with fail;go_ret;exact⟨rfl,rfl⟩
 ·rw[he]at c2;go_in;go_wp2_with fail;refine(F.out _).mono ?_;rintro e w1 ⟨rfl,rfl⟩;go_wp2_with fail;go_ret;exact⟨rfl,rfl⟩
theorem aj4{M:List Int}(h:aq w b (pG st fo ed cl mo mp nw mk) 159)(hM:w.ownsRow base 3 1 mk M.length (cH M)):
 Calls prog 231 #[.pointer (some ⟨b,0,none⟩)] w fun e w'=>e=.returned (.tuple #[.int .i64 (M.headD 0),.bool (!M.isEmpty)])/\w'=w:=by
 obtain⟨a,c,hv⟩:=cA hM;subst hv;have c7:w.cell? ⟨b,7,none⟩=some (.slice a M.length c):=h.cell 7
 cases M with
 |nil=>
  simp only[Bb]at c7;clear h hM;go_in;go_wp2_with fail;exact Bj (v:=.tuple #[.int .i64 0,.bool false]) (by simp[results,results231,go_sem]) rfl ⟨rfl,rfl⟩
 |cons x xs=>
  obtain⟨g,cg,e1,_,wW,_,iD,_⟩:=my hM (by simp);obtain⟨eA,eC⟩:a=some ⟨g,0,none⟩/\c=cg:=by simpa using e1
  have z:w.cell? ⟨g,0,none⟩=some (.int .i64 x):=by rw[iD 0 (by simp)];rfl
  obtain⟨n,hn⟩:∃n,n=(x::xs).length:=⟨_,rfl⟩
  rw[<-hn]at c7;have Ma:(n:Int)≠0:=by rw[hn];simp;omega
  have o9:¬(n:Int)<=0:=by omega
  have jS:((n:Int)==0)=false:=by simpa using Ma
  clear h hM hn e1 iD eC;subst eA;go_in;go_wp2_with fail;exact Bj (v:=.tuple #[.int .i64 x,.bool true]) (by simp[results,results231,go_sem]) rfl ⟨rfl,rfl⟩
open Go.Shelf Go.Lib Go.Sort
def vd(cl:List Int)(i:Nat):Int:=cl.getD i 0
theorem alo(w:World)(Bs Bc bs i cap n:Nat)(r x:Int)(h1:w.cell? ⟨Bs,0,none⟩=some (.slice (some ⟨bs,0,none⟩) n cap))(h2:w.cell? ⟨Bc,0,none⟩=some (.int .i32 r))(h3:w.cell? ⟨bs,i,none⟩=some (.int .i32 x))(hi:i<n)(hl:n<=100000000):
 Calls prog 238 #[.int .i64 (i:Int),.pointer (some ⟨Bs,0,none⟩),.pointer (some ⟨Bc,0,none⟩)] w fun e w'=>e=.returned (.bool (decide (r<x)))/\∃q,w'=w.drewN q:=by
 go_in
 go_wp2_with fail
 go_big_quiet (fail)
 go_wp2_with fail
 go_ret
 exact⟨rfl,_,rfl⟩
theorem ak0(cl:List Int)(r:Int):(List.range cl.length).countP (fun i=>!decide (r<vd cl i))=jl cl r:=by
 have h:cl=(List.range cl.length).map (vd cl):=by
  apply List.ext_getElem
  ·simp
  ·intro i h1 h2;simp[vd,Af,Ae h1]
 unfold jl;conv=>rhs;rw[h]
 rw[List.countP_map];congr 1;funext i;simp only[Function.comp];rw[Bg];simp
theorem alp(w:World)(sa:Option Addr)(sc bs:Nat)(cl:List Int)(r:Int)(ha:cl≠ []->sa=some ⟨bs,0,none⟩/\bs<w.heap.size)(hc:∀i,(h:i<cl.length)->w.cell? ⟨bs,i,none⟩=some (.int .i32 cl[i]))(ht:cl.Pairwise (· <= ·))(hl:cl.length<=100000000):
 Calls prog 235 #[.slice sa cl.length sc,.int .i32 r] w fun e w'=>e=.returned (.int .i64 (jl cl r:Int))/\aa af w w':=by
 obtain⟨W0,vu⟩:∃W0,W0=(w.alloc (.cells #[.slice sa cl.length sc] 154)).alloc (.cells #[.int .i32 r] 21):=⟨_,rfl⟩
 have K0:Hid (aa af w W0):=by rw[vu];exact((aa.refl af w).alloc _).alloc _
 have xi:W0.heap.size=w.heap.size+1+1:=by rw[vu];simp
 have B1:aq W0 w.heap.size #[.slice sa cl.length sc] 154:=by rw[vu];exact(aq.new w _ _).alloc _
 have B2:aq W0 (w.heap.size+1) #[.int .i32 r] 21:=by
  rw[vu];have:=aq.new (w.alloc (.cells #[.slice sa cl.length sc] 154)) #[.int .i32 r] 21;simpa using this
 have eg:∀args w,(callFunc 238 args).run prog w=.ok (.enter 238 args) w:=enters_of func238 (by kernel_rfl) rfl
 have hF:=Any.sort_Search Tryz.aep 238 #[.pointer (some ⟨w.heap.size,0,none⟩),.pointer (some ⟨w.heap.size+1,0,none⟩)] cl.length (fun i=>decide (r<vd cl i)) W0 eg (by omega)
  (fun m os i hi=>by
    have az:cl≠ []:=by intro e;subst e;simp at hi
    obtain⟨rfl,hb⟩:=ha az;have ck:∀{a:Addr} {v:Value},a.block<W0.heap.size->W0.cell? a=some v->(grow (W0.drewN m) os).cell? a=some v:=(fun aw pH=>cell_grown aw pH m os);have hx:vd cl i=cl[i]:=by unfold vd;rw[Af,Ae hi];rfl
    refine(alo (grow (W0.drewN m) os) w.heap.size (w.heap.size+1) bs i sc cl.length r (vd cl i) (ck (by show w.heap.size<_;omega) (B1.cell 0)) (ck (by show w.heap.size+1<_;omega) (B2.cell 0)) (ck (by show bs<_;omega) ((K0.out.cell (p:=⟨bs,i,none⟩) hb (fun h=>h)).trans (by rw[hx];exact hc i hi))) hi hl).mono ?_;rintro e w' ⟨h1,n,h2⟩;exact⟨h1,n,#[],by rw[h2,grow_empty]⟩)
  (fun a b h1 h2 h=>by
    have ea:vd cl a=cl[a]'(by omega):=by unfold vd;rw[Af,Ae (by omega)];rfl
    have eb:vd cl b=cl[b]'(by omega):=by unfold vd;rw[Af,Ae (by omega)];rfl
    simp only[Az]at h⊢;rw[ea]at h;rw[eb];by_cases e:a=b
    ·subst e;exact h
    ·have:=Ce.1 ht a b (by omega) (by omega) (by omega);omega)
 change Calls prog 139 _ _ _ at hF
 rw[ak0]at hF;have HF:=ab hF;clear hF hc ha ht B1 B2 eg;generalize jl cl r=k at*;go_in;go_wp2_with fail;rw[<-vu];refine(HF.out).mono ?_;rintro e w1 ⟨rfl,q,os,rfl⟩;have KF:Hid (aa af w (grow (W0.drewN q) os)):=K0.out.trans (BE (below_grown_sl W0.heap.size W0 q os (Ab _)));generalize hW:grow (W0.drewN q) os=W at*;clear hW;go_wp2_with fail;go_ret;exact⟨rfl,KF.out⟩
def lS(v:Value):Option (DataW Unit×List MemPlace):=match v with
 |.pointer none=>some (.lit (.bool false),[])
 |.pointer (some ⟨b,0,none⟩)=>some (.lit (.int .i64 (b:Int)),[])
 |_=>none
theorem amJ{b:Int}{ps:List MemPlace}(h:lS v=some (.lit (.int .i64 b),ps)):∃p:Nat,v=.pointer (some ⟨p,0,none⟩)/\(p:Int)=b:=by
 unfold lS at h;split at h
 ·simp at h
 ·rename_i p
  simp only[A9,Ck,DataW.lit.injEq,Lit.int.injEq]at h;exact⟨p,rfl,h.1.2⟩
 ·cases h
def rQ(s:dq):Lit:=.string (ui s).data.toList
theorem aj9(h:rQ s=rQ r):ui s=ui r:=by
 unfold rQ at h;simp only[Lit.string.injEq]at h;apply E9;apply Array.ext';exact h
structure lH(w:World)(mp:Nat)(mo:Int)(T:Nat->Option dq)(D:DataW Unit):Prop where
 au:w.ownsMap prog 9 lS mp (Maps.size D) D
 len:(Maps.size D:Int)<=mo
 ok:∀kl:Lit,Maps.has D kl=true->∃(b:Nat) (s:dq),D.atKey kl (.lit (.bool false))=.lit (.int .i64 (b:Int))/\T b=some s/\kl=rQ s
theorem adn(h:w.ownsMap prog 9 lS mp n D):w.ownsMap prog 9 lS mp (Maps.size D) D:=by
 obtain⟨es,clock,hb,F,hs,rfl⟩:=h;have e1:Maps.size (DataW.map ((es.toList.map (Go.WideElems.rg prog 9 lS)).foldr DataW.insert []))=es.size:=by simp[Maps.size,length_sorted]
 exact⟨es,clock,hb,F,by rw[e1];exact Ab _,rfl⟩
theorem lH.kept(h:lH w mp mo T D)(k:aa K w w')(hK:¬K mp):lH w' mp mo T D:=⟨jI h.au k hK,h.len,h.ok⟩
def zh(T:Nat->Option dq)(p:Nat)(s:dq):Nat->Option dq:=fun i=>if i=p then some s else T i
theorem RI(T:Nat->Option dq)(p:Nat)(s:dq):zh T p s p=some s:=if_pos rfl
theorem ae_(hn:T p=none)(h:T b=some r):zh T p s b=some r:=by
 unfold zh;rw[if_neg (fun e=>by rw[e,hn]at h;cases h)];exact h
theorem aj_(s:dq):WideAt.IsKeyLit (rQ s):=trivial
theorem lH.put(h:∀kl:Lit,Maps.has D kl=true->∃(b:Nat) (s:dq),D.atKey kl (.lit (.bool false))=.lit (.int .i64 (b:Int))/\T b=some s/\kl=rQ s)(hD:Maps.Tidy D)(hn:T p=none)(aw:(Maps.size D:Int)<mo)(bk:w'.ownsMap prog 9 lS mp n (D.put (rQ s) (.lit (.int .i64 (p:Int))))):lH w' mp mo (zh T p s) (D.put (rQ s) (.lit (.int .i64 (p:Int)))):=by
 refine⟨adn bk,?_,fun kl hk=>?_⟩
 ·rw[Maps.size_put hD];split<;>omega
 ·by_cases e:kl=rQ s
  ·subst e;exact⟨p,s,Maps.atKey_put_same hD.isMap (aj_ s) _ _,RI _ _ _,rfl⟩
  ·rw[Maps.has_put_other e]at hk;obtain⟨b,r,h1,h2,h3⟩:=h kl hk;exact⟨b,r,by rw[Maps.atKey_put_other e];exact h1,ae_ hn h2,h3⟩
theorem aoX{ops:Array Oper}{rest:List Oper}{o:Oper}{a:Act}{Q:Exit->Act->World->Prop}(gQ:o.guard=none)(d:Operand)(dT:TypeId)
 (ho:o.op=.call {callee:=.builtin .clear,args:=#[d],argTypes:=#[dT]})(k e:TypeId)(hu:prog.underlying dT=some (.map k e))
 (mp n:Nat)(hd:a.eval d=.map (some mp))(R:Value->Option (DataW Unit×List MemPlace))(D:DataW Unit)(bk:w.ownsMap prog k R mp n D)
 (h:∀w',w'.ownsMap prog k R mp 0 (.map [])->aa (fun i=>i=mp) w w'->wpList prog ops Q rest (a.put o.dst (.tuple #[])) w'):wpList prog ops Q (o::rest) a w:=by
 obtain⟨es,clock,hb,F,hs,rfl⟩:=bk;refine wpList_plain gQ fun K hK=>?_
 have sX:(Builtin.clear_ #[dT] o.type #[.map (some mp)]).run prog w=.ok (.tuple #[]) (Go.ChangeMaps.setBlock w mp (.map #[] clock)):=by
  simp only[Builtin.clear_,go_sem];simp[Ga hu,MapKept.run_getObj_map hb,MapKept.run_setObj_map _ hb,Go.ChangeMaps.setBlock]
 have h:=h (Go.ChangeMaps.setBlock w mp (.map #[] clock)) ⟨#[],clock,Go.ChangeMaps.heap_setBlock_same hb _,⟨by simp,by simp[Go.MapKept.Stamped],by simp⟩,by simp,rfl⟩ ⟨rfl,rfl,rfl,by simp[Go.ChangeMaps.setBlock],fun i hi az=>by
  show(w.heap.setIfInBounds mp _)[i]? =_
  exact C5 (fun e=>az e.symm)⟩
 unfold Oper.wp;simp[execOp,ho,resolve,invoke,builtin,hd,sX,Result.andThen];exact hK _ _ h
def SX(ms:List MS)(T:Nat->Option dq):Prop:=∀b s,T b=some s->s.Ok ms/\(s.ah= -1\/s.ah=119\/s.ah=32)
structure x_(w:World)(mp:Nat)(mo:Int)(T:Nat->Option dq)(s:dq)(tv:Value)(e:Ending)(w':World):Prop where
 ex:∃(p:Nat) (T':Nat->Option dq) (D':DataW Unit),e=.returned (.pointer (some ⟨p,0,none⟩))/\T' p=some s/\lH w' mp mo T' D'/\(T'=T\/(p=w.heap.size/\T'=zh T p s/\aq w' p #[tv,.int .i32 s.ah,.bool s.mt,.slice none 0 0] 192))
 kept:aa (fun i=>i=mp) w w'
theorem lH.ah4(h:lH w mp mo T D)(hT:SX ms T)(hm:ms.length<=60000)(hs:s.Ok ms)(ha:s.ah= -1\/s.ah=119\/s.ah=32)(hk:Maps.has D (rQ s)=true):∃b:Nat,D.atKey (rQ s) (.lit (.bool false))=.lit (.int .i64 (b:Int))/\T b=some s:=by
 obtain⟨b,r,h1,h2,h3⟩:=h.ok _ hk;have e:=aka (aj9 h3);have:=aj8 hm hs (hT b r h2).1 ha (hT b r h2).2 e;subst this;exact⟨b,h1,h2⟩
theorem acq{tb:Nat}(h:aq w b (pG st fo ed cl mo mp nw mk) 159)(hM:lH w mp mo T D)(hmb:mp≠b)(yB:mp<w.heap.size)(fL:2<=mo/\mo<=1000000000)
 (hT:SX ms T)(hTn:T w.heap.size=none)(hm:ms.length<=4001)(hs:s.Ok ms)(ha:s.ah= -1\/s.ah=119\/s.ah=32)(Qo:pD w tb a s.aU):
 Calls prog 101 #[.pointer (some ⟨b,0,none⟩),.agg #[.slice a s.aU.length c,.int .i32 s.ah,.bool s.mt,.slice none 0 0]] w (x_ w mp mo T s (.slice a s.aU.length c)):=by
 have gz:=h.lt;have HB:=ab h;have B0:=aq.new w #[.slice a s.aU.length c,.int .i32 s.ah,.bool s.mt,.slice none 0 0] 192;have K0:Hid (aa af w (w.alloc (.cells #[.slice a s.aU.length c,.int .i32 s.ah,.bool s.mt,.slice none 0 0] 192))):=(aa.refl af w).alloc _;have F:=ab (akb B0 (Qo.kept K0.out (fun _ hx=>hx)) (by have:=hs.bT;omega));have HM:=ab hM
 have IX:(ui s).size<=100000:=by
  unfold ui;rw[strOfNums_size];unfold tc;rw[Aj]
  have oY:(s.aU.flatMap xG).length=4*s.aU.length:=by
   induction s.aU with
   |nil=>rfl
   |cons t ts ih=>rw[Di,Aj,ih];simp[xG];omega
  have bM:=hs.bT;rw[oY];simp only[Ax,Bb];omega
 have ji:keyOf prog 9 (.string (ui s))=some (rQ s):=Eg underlying9 (by unfold maxLen;omega);have R7:=ab fun hk=>hM.ah4 hT (by omega) hs ha hk
 have Y3:=ab hTn;have xN:=ab B0;clear h hM B0 hT hTn hs ha Qo;generalize eT:ui s=key at*;generalize oh:rQ s=kl at*;have YH:=ab oh;clear eT oh;go_in;go_wp2_with fail;refine(F.out).mono ?_;rintro e w1 ⟨rfl,k1⟩;have k1':=K0.out.trans k1;have bE:=HB.out.kept k1' (fun hx=>hx);have c5:w1.cell? ⟨b,5,none⟩=some (.map (some mp)):=bE.cell 5;have c4:w1.cell? ⟨b,4,none⟩=some (.int .i64 mo):=bE.cell 4;have iK:=HM.out.kept k1' (fun hx=>hx);have so:=ab iK;have K1:=ab k1';have rL:=k1'.size;have BN:=ab (xN.out.kept k1 (fun hx=>hx));have ai2:w.heap.size<w1.heap.size:=(xN.out.kept k1 (fun hx=>hx)).lt;have Kk:=ab iK.au;clear F K0 HB bE k1 k1' iK xN HM
 cases aiO:Maps.has D kl with
 |true=>
  obtain⟨p,h1,h2⟩:=R7.out aiO;have ax:Hid (x_ w mp mo T s (.slice a s.aU.length c) (.returned (.pointer (some ⟨p,0,none⟩))) w1):=⟨⟨p,T,D,rfl,h2,so.out,Or.inl rfl⟩,K1.out.mono (fun _ hx=>hx.elim)⟩;have H1:=ab h1;clear h1 h2 R7 so;go_wp2_with (at_lookup;refine Fl _ rfl _ _ 156 rfl 9 157 rR underlying156 lS (z:=.pointer none) rfl (.lit (.bool false)) [] rfl mp (Maps.size D) D rfl Kk.out _ _ rfl ji ?_;intro v ps hv;rw[H1.out]at hv;obtain⟨p',rfl,hp⟩:=amJ hv;obtain rfl:p'=p:=by omega);go_ret;exact ax.out
 |false=>
  clear R7;have apQ:∀ty,(Builtin.len_ #[156] ty #[.map (some mp)]).run prog w1.drew=.ok (.int .i64 (Maps.size D:Int)) w1.drew:=fun ty=>(jI Kk.out (aa.refl af w1).drew (fun hx=>hx)).len (t:=156) (e:=157) underlying156 ty
  have hle:=so.out.len
  have uT:Hid (∀(w5 w6:World) (D5:DataW Unit) (n5:Nat),w5.ownsMap prog 9 lS mp n5 D5->(Maps.size D5:Int)<mo->(∀kl:Lit,Maps.has D5 kl=true->∃(b:Nat) (s:dq),D5.atKey kl (.lit (.bool false))=.lit (.int .i64 (b:Int))/\T b=some s/\kl=rQ s)->aa (fun i=>i=mp) w1 w5->w6.ownsMap prog 9 lS mp (n5+1) (D5.put kl (.lit (.int .i64 (w.heap.size:Int))))->w5.grownBy w6 (some mp)->x_ w mp mo T s (.slice a s.aU.length c) (.returned (.pointer (some ⟨w.heap.size,0,none⟩))) w6):=fun w5 w6 D5 n5 h5 aw df k5 h6 dK=>by
   have k6:aa (fun i=>i=mp) w1 w6:=k5.akC dK (Or.inl rfl);rw[<-YH.out]at h6;refine⟨⟨w.heap.size,zh T w.heap.size s,_,rfl,RI _ _ _,lH.put df (h5.tidy rR) Y3.out aw h6,Or.inr ⟨rfl,rfl,BN.out.kept k6 (fun e=>by omega)⟩⟩,(K1.out.mono (fun _ hx=>hx.elim)).trans k6⟩
  have kZ:=ab so.out.ok;have Kl:=ab (jI Kk.out (aa.refl af w1).drew (fun hx=>hx));clear BN K1 so Y3 YH;by_cases abE:(Maps.size D:Int)=mo
  ·have LU:((Maps.size D:Int)==mo)=true:=(by simpa using abE);go_wp2_with (at_lookup;refine Fl _ rfl _ _ 156 rfl 9 157 rR underlying156 lS (z:=.pointer none) rfl (.lit (.bool false)) [] rfl mp (Maps.size D) D rfl Kk.out _ _ rfl ji ?_;intro v ps hv;clear hv);go_region;go_wp2_with (first|(refine aoX rfl (.tmp 33) 156 rfl 9 157 underlying156 mp (Maps.size D) rfl lS D Kl.out ?_;intro w5 sU k5;have c5':w5.cell? ⟨b,5,none⟩=some (.map (some mp)):=(k5.cell (p:=⟨b,5,none⟩) (by show b<w1.heap.size;omega) (fun e=>hmb e.symm)).trans c5;have Sw:=ab sU;have Ob:=ab k5;clear sU k5)|(at_mapUpdate;refine El _ rfl _ _ _ 156 rfl 9 157 rR underlying156 lS mp 0 (.map []) rfl Sw.out (by unfold maxLen;omega) _ _ _ rfl rfl ji (.lit (.int .i64 (w.heap.size:Int))) [] rfl ?_;intro w6 Mk LY));have ax:=ab (uT.out w5 w6 (.map []) 0 Sw.out (by show((0:Nat):Int)<mo;omega) (fun kl hk=>by cases hk) (((aa.refl (fun i=>i=mp) w1).drew).trans Ob.out) Mk LY);clear Mk LY uT kZ Sw Ob Kl;go_wp2_with fail;go_ret;exact ax.out
  ·have LU:((Maps.size D:Int)==mo)=false:=(by simpa using abE);go_wp2_with (at_lookup;refine Fl _ rfl _ _ 156 rfl 9 157 rR underlying156 lS (z:=.pointer none) rfl (.lit (.bool false)) [] rfl mp (Maps.size D) D rfl Kk.out _ _ rfl ji ?_;intro v ps hv;clear hv);go_region;go_wp2_with (at_mapUpdate;refine El _ rfl _ _ _ 156 rfl 9 157 rR underlying156 lS mp (Maps.size D) D rfl Kl.out (by unfold maxLen;omega) _ _ _ rfl rfl ji (.lit (.int .i64 (w.heap.size:Int))) [] rfl ?_;intro w6 Mk LY);have ax:=ab (uT.out _ w6 D _ Kl.out (by omega) kZ.out ((aa.refl (fun i=>i=mp) w1).drew) Mk LY);clear Mk LY uT kZ Kl;go_wp2_with fail;go_ret;exact ax.out
structure TG where
 B:Nat->Prop
 T:Nat->Option dq
 O:Nat->Nat
structure MC where
 ms:List MS
 st:Int
 cl:List Int
def MC.out(m:MC)(bh:Int)(s:dq):dq×List Int×Option Int:=mu m.ms m.st (jJ m.ms bh) bh s
structure qi(w:World)(m:MC)(t:TG)(s:dq)(j q:Nat):Prop where
 ex:∃(tq:Nat) (mv:Value) (bh:Int),((0<=bh/\bh<=1114111)/\jl m.cl bh=j)/\(aq w q #[.pointer (some ⟨tq,0,none⟩),mv,.int .i64 ((m.out bh s).2.2.getD (-1))] 317/\t.B q)/\t.T tq=some (m.out bh s).1/\w.ownsRow 0 3 1 mv (m.out bh s).2.1.length (cH (m.out bh s).2.1)/\∀i,mv.ownBlock=some i->t.B i
def Oz(w:World)(m:MC)(t:TG)(s:dq)(b:Nat)(sv:Value):Prop:=
 sv=.slice none 0 0\/∃(pb:Nat) (cs:List (Option Nat)),sv=.slice (some ⟨pb,0,none⟩) (m.cl.length+1) (m.cl.length+1)/\(t.B pb/\t.O pb=b)/\cs.length=m.cl.length+1/\aq w pb (cs.map fun q=>Value.pointer (q.map fun q=>⟨q,0,none⟩)).toArray 314/\∀j q,cs[j]? =some (some q)->qi w m t s j q
structure Oy(w:World)(m:MC)(t:TG)(b:Nat)(s:dq):Prop where
 ex:∃(c:Nat) (a:Option Addr) (sv:Value),aq w b #[.slice a s.aU.length c,.int .i32 s.ah,.bool s.mt,sv] 192/\(w.ownsRow 0 256 2 (.slice a s.aU.length c) s.aU.length (eF s.aU)/\∀i,(Value.slice a s.aU.length c).ownBlock=some i->t.B i)/\Oz w m t s b sv
 in_:t.B b
structure iJ(w:World)(m:MC)(t:TG):Prop where
 st:∀b s,t.T b=some s->Oy w m t b s
 lt:∀i,t.B i->i<w.heap.size
 ok:SX m.ms t.T
theorem iJ.fresh{m:MC}{t:TG}(h:iJ w m t)(hb:w.heap.size<=b):t.T b=none:=by
 cases e:t.T b with
 |none=>rfl
 |some s=>have:=h.lt b (h.st b s e).in_;omega
structure TG.le(t t':TG):Prop where
 B:∀i,t.B i->t'.B i
 T:∀b s,t.T b=some s->t'.T b=some s
 O:∀i,t.B i->t'.O i=t.O i
theorem TG.le.refl(t:TG):t.le t:=⟨fun _ h=>h,fun _ _ h=>h,fun _ _=>rfl⟩
theorem TG.le.trans{t t1 t2:TG}(h:t.le t1)(k:t1.le t2):t.le t2:=⟨fun i hi=>k.B i (h.B i hi),fun b s hs=>k.T b s (h.T b s hs),fun i hi=>(k.O i (h.B i hi)).trans (h.O i hi)⟩
theorem qi.eV{m:MC}{t t':TG}(h:qi w m t s j q)(k:aa K w w')(hK:∀i,K i->¬t.B i)(hle:t.le t'):qi w' m t' s j q:=by
 obtain⟨tq,mv,bh,h1,⟨h2,h3⟩,h4,h5,h6⟩:=h.ex;exact⟨tq,mv,bh,h1,⟨h2.kept k (fun hx=>hK _ hx h3),hle.B _ h3⟩,hle.T _ _ h4,bR h5 k (fun i hi hx=>hK _ hx (h6 i hi)),fun i hi=>hle.B _ (h6 i hi)⟩
theorem Oz.eV{m:MC}{t t':TG}{sv:Value}(h:Oz w m t s b sv)(k:aa K w w')(hK:∀i,K i->¬t.B i)(hle:t.le t'):Oz w' m t' s b sv:=by
 rcases h with h|⟨pb,cs,h1,⟨h2,h3⟩,h4,h5,h6⟩
 ·exact Or.inl h
 ·exact Or.inr ⟨pb,cs,h1,⟨hle.B _ h2,(hle.O _ h2).trans h3⟩,h4,h5.kept k (fun hx=>hK _ hx h2),fun j q hq=>(h6 j q hq).eV k hK hle⟩
theorem Oy.eV{m:MC}{t t':TG}(h:Oy w m t b s)(k:aa K w w')(hK:∀i,K i->¬t.B i)(hle:t.le t'):Oy w' m t' b s:=by
 obtain⟨c,a,sv,h1,⟨h2,h3⟩,h4⟩:=h.ex;exact⟨⟨c,a,sv,h1.kept k (fun hx=>hK _ hx h.in_),⟨bR h2 k (fun i hi hx=>hK _ hx (h3 i hi)),fun i hi=>hle.B _ (h3 i hi)⟩,h4.eV k hK hle⟩,hle.B _ h.in_⟩
theorem iJ.kept{m:MC}{t:TG}(h:iJ w m t)(k:aa K w w')(hK:∀i,K i->¬t.B i):iJ w' m t:=
 ⟨fun b s hs=>(h.st b s hs).eV k hK (TG.le.refl t),fun i hi=>Ar (h.lt i hi) k.size,h.ok⟩
def TG.add(t:TG)(p:Nat)(s:dq)(tv:Value):TG:=⟨fun i=>t.B i\/i=p\/tv.ownBlock=some i,zh t.T p s,t.O⟩
theorem TG.Tb{t:TG}{tv:Value}(hn:t.T p=none):t.le (t.add p s tv):=⟨fun i hi=>Or.inl hi,fun b r hr=>ae_ hn hr,fun _ _=>rfl⟩
theorem iJ.add{m:MC}{t:TG}(h:iJ w m t)(k:aa K w w')(hK:∀i,K i->¬t.B i)(hp:w.heap.size<=p)(hB:aq w' p #[.slice a s.aU.length c,.int .i32 s.ah,.bool s.mt,.slice none 0 0] 192)
 (hr:w'.ownsRow base 256 2 (.slice a s.aU.length c) s.aU.length (eF s.aU))(hs:s.Ok m.ms/\(s.ah= -1\/s.ah=119\/s.ah=32)):iJ w' m (t.add p s (.slice a s.aU.length c)):=by
 have hn:=h.fresh hp;refine⟨fun b r hb=>?_,fun i hi=>?_,fun b r hb=>?_⟩
 ·by_cases e:b=p
  ·subst e;have:s=r:=by have:=hb;unfold TG.add at this;simp only[RI]at this;cases this;rfl
   subst this;exact⟨⟨c,a,.slice none 0 0,hB,⟨xy hr (Am _),fun i hi=>Or.inr (Or.inr hi)⟩,Or.inl rfl⟩,Or.inr (Or.inl rfl)⟩
  ·have kN:t.T b=some r:=by have:=hb;unfold TG.add zh at this;simp only[if_neg e]at this;exact this
   exact(h.st b r kN).eV k hK (TG.Tb hn)
 ·rcases hi with hi|hi|hi
  ·exact Ar (h.lt i hi) k.size
  ·rw[hi];exact hB.lt
  ·exact(dw hr hi).2
 ·by_cases e:b=p
  ·subst e;have:s=r:=by have:=hb;unfold TG.add at this;simp only[RI]at this;cases this;rfl
   subst this;exact hs
  ·have kN:t.T b=some r:=by have:=hb;unfold TG.add zh at this;simp only[if_neg e]at this;exact this
   exact h.ok b r kN
theorem KT{e size:Nat}{xs:List Value}(hb:aq w b cs t)(hr:w.ownsRow base e size v n xs)(az:t≠e):v.ownBlock≠some b:=fun hx=>by
 rcases hr.2 with⟨rfl,_⟩|⟨g,cap,aL,rfl,_,a2,_⟩
 ·simp[Value.ownBlock]at hx
 ·simp only[Value.ownBlock,A9]at hx;subst hx;unfold aq at hb;rw[a2]at hb;simp only[A9,Obj.cells.injEq]at hb;exact az hb.2.1.symm
theorem KS{b':Nat}{It:Array Value}{t':TypeId}(h:aq w b cs t)(h':aq w b' It t')(az:t≠t'):b≠b':=fun e=>by
 subst e;unfold aq at h h';rw[h]at h';simp only[A9,Obj.cells.injEq]at h';exact az h'.2.1
theorem qi.lX{m:MC}{t t':TG}{ty:TypeId}(h:qi w m t s j q)(hb:aq w b cs ty)(h1:ty≠317)(h2:ty≠3)(k:aa (fun i=>i=b) w w')(hle:t.le t'):qi w' m t' s j q:=by
 obtain⟨tq,mv,bh,e1,⟨e2,e3⟩,e4,e5,e6⟩:=h.ex;exact⟨tq,mv,bh,e1,⟨e2.kept k (fun hx=>KS hb e2 h1 hx.symm),hle.B _ e3⟩,hle.T _ _ e4,bR e5 k (fun i hi hx=>KT hb e5 h2 (by rw[<-hx];exact hi)),fun i hi=>hle.B _ (e6 i hi)⟩
def TG.Jo(t:TG)(b pb:Nat):TG:=⟨fun i=>t.B i\/i=pb,t.T,fun i=>if i=pb then b else t.O i⟩
theorem TG.acC{t:TG}(hn:¬t.B pb):t.le (t.Jo b pb):=⟨fun i hi=>Or.inl hi,fun _ _ h=>h,fun i hi=>by
 have az:¬i=pb:=fun e=>hn (by rw[<-e];exact hi)
 unfold TG.Jo;simp only;rw[if_neg az]⟩
theorem iJ.Jo{m:MC}{t:TG}{Ry:Value}(h:iJ w m t)(hs:t.T b=some s)(h0:aq w b #[.slice a s.aU.length c,.int .i32 s.ah,.bool s.mt,Ry] 192)(hp:w.heap.size<=pb)(k:aa (fun i=>i=b) w w')
 (hB:aq w' b #[.slice a s.aU.length c,.int .i32 s.ah,.bool s.mt,.slice (some ⟨pb,0,none⟩) (m.cl.length+1) (m.cl.length+1)] 192)(hP:aq w' pb ((List.replicate (m.cl.length+1) (none:Option Nat)).map fun q=>Value.pointer (q.map fun q=>⟨q,0,none⟩)).toArray 314):iJ w' m (t.Jo b pb):=by
 have hn:¬t.B pb:=fun hx=>by have:=h.lt pb hx;omega
 have hle:=TG.acC (b:=b) hn;refine⟨fun b' r kN=>?_,fun i hi=>?_,h.ok⟩
 ·have hr:t.T b'=some r:=kN;by_cases e:b'=b
  ·subst e;rw[hs]at hr
   cases hr;obtain⟨c',a',xE,e1,⟨e2,e3⟩,_⟩:=(h.st b' s hs).ex
   have ec:(Value.slice a s.aU.length c)=.slice a' s.aU.length c':=by
    have:=h0.cell 0;have h2:=e1.cell 0;rw[this]at h2;simpa using h2
   simp only[Bi]at ec;obtain⟨rfl,_,rfl⟩:=ec;refine⟨⟨c,a,_,hB,⟨bR e2 k (fun i hi hx=>KT e1 e2 (by decide) (by rw[<-hx];exact hi)),fun i hi=>hle.B _ (e3 i hi)⟩,Or.inr ⟨pb,List.replicate (m.cl.length+1) none,rfl,⟨Or.inr rfl,if_pos rfl⟩,by simp,hP,fun j q hq=>?_⟩⟩,hle.B _ (h.st b' s hs).in_⟩;rw[Cz]at hq;split at hq<;>cases hq
  ·obtain⟨c',a',xE,e1,⟨e2,e3⟩,e4⟩:=(h.st b' r hr).ex;refine⟨⟨c',a',xE,e1.kept k e,⟨bR e2 k (fun i hi hx=>KT h0 e2 (by decide) (by rw[<-hx];exact hi)),fun i hi=>hle.B _ (e3 i hi)⟩,?_⟩,hle.B _ (h.st b' r hr).in_⟩;rcases e4 with e4|⟨p',cs,q1,⟨q2,q3⟩,q4,q5,q6⟩
   ·exact Or.inl e4
   ·exact Or.inr ⟨p',cs,q1,⟨hle.B _ q2,(hle.O _ q2).trans q3⟩,q4,q5.kept k (fun hx=>KS h0 q5 (by decide) hx.symm),fun j q hq=>(q6 j q hq).lX h0 (by decide) (by decide) k hle⟩
 ·rcases hi with hi|hi
  ·exact Ar (h.lt i hi) k.size
  ·rw[hi];exact hP.lt
def TG.grow(t:TG)(q:Nat)(mv:Value):TG:=⟨fun i=>t.B i\/i=q\/mv.ownBlock=some i,t.T,t.O⟩
theorem TG.aii(t:TG)(q:Nat)(mv:Value):t.le (t.grow q mv):=⟨fun i hi=>Or.inl hi,fun _ _ h=>h,fun _ _=>rfl⟩
theorem ad2:∀(x y:List (Option Nat)),(x.map fun q=>Value.pointer (q.map fun q=>(⟨q,0,none⟩:Addr)))=(y.map fun q=>Value.pointer (q.map fun q=>⟨q,0,none⟩))->x=y
 | [],[],_=>rfl
 | [],_::_,h=>by simp at h
 |_::_,[],h=>by simp at h
 |u::us,v::vs,h=>by
  simp only[Cc,Fu,Value.pointer.injEq]at h
  have e:u=v:=by
   have h1:=h.1
   cases u<;>cases v<;>simp at h1<;>first|rfl|(rw[h1])
  rw[e,ad2 us vs h.2]
theorem anZ(cs:List (Option Nat))(j q:Nat):(cs.map fun q=>Value.pointer (q.map fun q=>⟨q,0,none⟩)).toArray.setIfInBounds j (.pointer (some ⟨q,0,none⟩))=((cs.set j (some q)).map fun q=>Value.pointer (q.map fun q=>⟨q,0,none⟩)).toArray:=by
 simp[Fe]
theorem iJ.set{m:MC}{t:TG}{cs:List (Option Nat)}(h:iJ w m t)(hs:t.T b=some s)(h0:aq w pb (cs.map fun q=>Value.pointer (q.map fun q=>⟨q,0,none⟩)).toArray 314)(hO:t.B pb/\t.O pb=b)(hj:j<cs.length)(hS:qi w m t s j q):
 iJ (w.setCell ⟨pb,j,none⟩ (.pointer (some ⟨q,0,none⟩))) m t:=by
 have k:aa (fun i=>i=pb) w (w.setCell ⟨pb,j,none⟩ (.pointer (some ⟨q,0,none⟩))):=(aa.refl (fun i=>i=pb) w).setCell (p:=⟨pb,j,none⟩) (Or.inl rfl) _;have hle:=TG.le.refl t;have hP:=h0.setCell j (.pointer (some ⟨q,0,none⟩));rw[anZ]at hP;refine⟨fun b' r hr=>?_,fun i hi=>Ar (h.lt i hi) k.size,h.ok⟩;obtain⟨c',a',xE,e1,⟨e2,e3⟩,e4⟩:=(h.st b' r hr).ex;refine⟨⟨c',a',xE,e1.kept k (fun hx=>KS h0 e1 (by decide) hx.symm),⟨bR e2 k (fun i hi hx=>KT h0 e2 (by decide) (by rw[<-hx];exact hi)),e3⟩,?_⟩,(h.st b' r hr).in_⟩;rcases e4 with e4|⟨p',It,q1,⟨q2,q3⟩,q4,q5,q6⟩
 ·exact Or.inl e4
 ·by_cases e:p'=pb
  ·subst e;have wV:b'=b:=(by rw[<-q3,hO.2]);subst wV;rw[hs]at hr
   cases hr
   have ecs:It=cs:=by
    have hx:aq w p' (It.map fun q=>Value.pointer (q.map fun q=>⟨q,0,none⟩)).toArray 314:=q5;unfold aq at hx h0;rw[hx]at h0;simp only[A9,Obj.cells.injEq,List.toArray_inj,and_true]at h0;exact ad2 _ _ (Fi.2 h0)
   subst ecs;refine Or.inr ⟨p',It.set j (some q),q1,⟨q2,q3⟩,by rw[Bk];exact q4,hP,fun j' q' qD=>?_⟩;rw[List.getElem?_set]at qD;split at qD
   ·rename_i hjj
    subst hjj
    cases qD;exact hS.lX h0 (by decide) (by decide) k hle
   ·exact(q6 j' q' qD).lX h0 (by decide) (by decide) k hle
  ·exact Or.inr ⟨p',It,q1,⟨q2,q3⟩,q4,q5.kept k e,fun j q hq=>(q6 j q hq).lX h0 (by decide) (by decide) k hle⟩
end Go.Proofs.YtpdnofhackjfdaaGreatDoor
