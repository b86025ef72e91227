/- Package marks -/
import Derived.Test.YtpdnofhackjfdaaGreatDoorP33
set_option linter.all false
set_option maxRecDepth 100000
set_option maxHeartbeats 4000000
namespace Go.Proofs.YtpdnofhackjfdaaGreatDoor
open Go.Proofs.Tryz
open Go.RowKit Go.Maps
variable {cs:Array Value} {ed:Bool} {D:DataW Unit} {mo st:Int} {ms:List MS} {r s:dC} {b base c j mp n p pb q:Nat} {T:Nat->Option dC} {K:Nat->Prop} {a:Option Addr} {t:TypeId} {cl fo mk nw v:Value} {w w':World}
theorem aat(w:World)(c:Int):Calls prog 126 #[.int .i32 c] w fun e w'=>e=.returned (.int .i32 (qv c))/\w'=w:=by
 by_cases h:c= -1
 ·subst h;exact aos w
 ·have hb:(c== -1)=false:=by simpa using h
  have F:=ab fun(W:World)=>Xl W c
  have e:qv c=if kM c then 119 else 32:=by unfold qv;rw[if_neg h]
  rw[e];obtain⟨wd,qm⟩:∃wd,kM c=wd:=⟨_,rfl⟩
  rw[qm]at F⊢;clear e qm;go_in;go_wp2_with fail;refine(F.o _).mono ?_;rintro e w1 ⟨rfl,rfl⟩
  cases wd
  ·go_wp2_with fail
   go_ret
   exact⟨rfl,rfl⟩
  ·go_wp2_with fail
   go_ret
   exact⟨rfl,rfl⟩
theorem adb{c:Int}(h:au w b (p_ st fo (pz ms) cl mo mp nw mk) 159):
 Calls prog 102 #[BT b 0,.int .i32 c] w fun e w'=>e=.returned (.int .i32 (jR ms c))/\w'=w:=by
 have c2:w.cell? (GB b 2)=some (.bool (pz ms)):=h.cell 2;have F:=ab fun(W:World)=>aat W c
 clear h;unfold jR
 cases he:pz ms
 ·rw[he]at c2;go_in;go_wp2_with fail;go_ret;exact⟨rfl,rfl⟩
 ·rw[he]at c2;go_in;go_wp2_with fail;refine(F.o _).mono ?_;rintro e w1 ⟨rfl,rfl⟩;go_wp2_with fail;go_ret;exact⟨rfl,rfl⟩
theorem akX{M:List Int}(h:au w b (p_ st fo ed cl mo mp nw mk) 159)(hM:w.ownsRow base 3 1 mk M.length (cQ M)):
 Calls prog 231 #[BT b 0] w fun e w'=>e=.returned (.tuple #[GW (M.headD 0),.bool (!M.isEmpty)])/\w'=w:=by
 obtain⟨a,c,hv⟩:=cw hM;subst hv;have c7:w.cell? (GB b 7)=some (.slice a M.length c):=h.cell 7
 cases M with
 |nil=>
  simp only[Bf]at c7;clear h hM;go_in;go_wp2_with fail;exact Bm (v:=.tuple #[GW 0,.bool false]) (by simp[results,results231,go_sem]) rfl ⟨rfl,rfl⟩
 |cons x xs=>
  obtain⟨g,cg,e1,_,xH,_,gV,_⟩:=mO hM (by simp);obtain⟨eA,eC⟩:a=some (GB g 0)/\c=cg:=by simpa using e1
  have z:w.cell? (GB g 0)=some (GW x):=by rw[gV 0 (by simp)];rfl
  obtain⟨n,hn⟩:∃n,n=(x::xs).length:=⟨_,rfl⟩
  rw[<-hn]at c7;have Nl:(n:Int)≠0:=by rw[hn];simp;omega
  have pE:¬(n:Int)<=0:=by omega
  have jZ:((n:Int)==0)=false:=by simpa using Nl
  clear h hM hn e1 gV eC;subst eA;go_in;go_wp2_with fail;exact Bm (v:=.tuple #[GW x,.bool true]) (by simp[results,results231,go_sem]) rfl ⟨rfl,rfl⟩
open Go.Shelf Go.Lib Go.Sort
def vJ(cl:List Int)(i:Nat):Int:=cl.getD i 0
theorem ami(w:World)(Bs Bc bs i cap n:Nat)(r x:Int)(h1:w.cell? (GB Bs 0)=some (.slice (some (GB bs 0)) n cap))(h2:w.cell? (GB Bc 0)=some (.int .i32 r))(h3:w.cell? (GB bs i)=some (.int .i32 x))(hi:i<n)(hl:n<=100000000):
 Calls prog 238 #[GW (i:Int),BT Bs 0,BT Bc 0] w fun e w'=>e=.returned (.bool (decide (r<x)))/\∃q,w'=w.drewN q:=by
 go_in
 go_wp2_with fail
 go_big_quiet (fail)
 go_wp2_with fail
 go_ret
 exact⟨rfl,_,rfl⟩
theorem alU(cl:List Int)(r:Int):(List.range cl.length).countP (fun i=>!decide (r<vJ cl i))=ju cl r:=by
 have h:cl=(List.range cl.length).map (vJ cl):=by
  apply List.ext_getElem
  ·simp
  ·intro i h1 h2;simp[vJ,Af,Ae h1]
 unfold ju;conv=>rhs;rw[h]
 rw[List.countP_map];congr 1;funext i;simp only[Function.comp];rw[Bi];simp
theorem amj(w:World)(sa:Option Addr)(sc bs:Nat)(cl:List Int)(r:Int)(ha:cl≠ []->sa=some (GB bs 0)/\bs<w.heap.size)(hc:∀i,(h:i<cl.length)->w.cell? (GB bs i)=some (.int .i32 cl[i]))(ht:cl.Pairwise (· <= ·))(hl:cl.length<=100000000):
 Calls prog 235 #[.slice sa cl.length sc,.int .i32 r] w fun e w'=>e=.returned (GW (ju cl r:Int))/\aa ai w w':=by
 obtain⟨W0,vT⟩:∃W0,W0=(w.alloc (.cells #[.slice sa cl.length sc] 154)).alloc (.cells #[.int .i32 r] 21):=⟨_,rfl⟩
 have K0:Hid (aa ai w W0):=by rw[vT];exact((aa.refl ai w).alloc _).alloc _
 have xQ:W0.heap.size=w.heap.size+1+1:=by rw[vT];simp
 have B1:au W0 w.heap.size #[.slice sa cl.length sc] 154:=by rw[vT];exact(au.new w _ _).alloc _
 have B2:au W0 (w.heap.size+1) #[.int .i32 r] 21:=by
  rw[vT];have:=au.new (w.alloc (.cells #[.slice sa cl.length sc] 154)) #[.int .i32 r] 21;simpa using this
 have eg:∀args w,(callFunc 238 args).run prog w=.ok (.enter 238 args) w:=enters_of func238 (by kernel_rfl) rfl
 have hF:=Any.sort_Search Tryz.afa 238 #[BT w.heap.size 0,.pointer (some ⟨w.heap.size+1,0,none⟩)] cl.length (fun i=>decide (r<vJ cl i)) W0 eg (by omega)
  (fun m os i hi=>by
    have aB:cl≠ []:=by intro e;subst e;simp at hi
    obtain⟨rfl,hb⟩:=ha aB;have ck:∀{a:Addr} {v:Value},a.block<W0.heap.size->W0.cell? a=some v->(grow (W0.drewN m) os).cell? a=some v:=(fun az oD=>cell_grown az oD m os);have hx:vJ cl i=cl[i]:=by unfold vJ;rw[Af,Ae hi];rfl
    refine(ami (grow (W0.drewN m) os) w.heap.size (w.heap.size+1) bs i sc cl.length r (vJ cl i) (ck (by show w.heap.size<_;omega) (B1.cell 0)) (ck (by show w.heap.size+1<_;omega) (B2.cell 0)) (ck (by show bs<_;omega) ((K0.o.cell (p:=(GB bs i)) hb (fun h=>h)).trans (by rw[hx];exact hc i hi))) hi hl).mono ?_;rintro e w' ⟨h1,n,h2⟩;exact⟨h1,n,#[],by rw[h2,grow_empty]⟩)
  (fun a b h1 h2 h=>by
    have ea:vJ cl a=cl[a]'(by omega):=by unfold vJ;rw[Af,Ae (by omega)];rfl
    have eb:vJ cl b=cl[b]'(by omega):=by unfold vJ;rw[Af,Ae (by omega)];rfl
    simp only[A5]at h⊢;rw[ea]at h;rw[eb];by_cases e:a=b
    ·subst e;exact h
    ·have:=Cj.1 ht a b (by omega) (by omega) (by omega);omega)
 change Calls prog 139 _ _ _ at hF
 rw[alU]at hF;have HF:=ab hF;clear hF hc ha ht B1 B2 eg;generalize ju cl r=k at*;go_in;go_wp2_with fail;rw[<-vT];refine(HF.o).mono ?_;rintro e w1 ⟨rfl,q,os,rfl⟩;have KF:Hid (aa ai w (grow (W0.drewN q) os)):=K0.o.trans (DI (below_grown_sl W0.heap.size W0 q os (Ab _)));generalize hW:grow (W0.drewN q) os=W at*;clear hW;go_wp2_with fail;go_ret;exact⟨rfl,KF.o⟩
def me(v:Value):Option (DataW Unit×List MemPlace):=match v with
 |.pointer none=>some (.lit (.bool false),[])
 |.pointer (some ⟨b,0,none⟩)=>some (.lit (.int .i64 (b:Int)),[])
 |_=>none
theorem anH{b:Int}{ps:List MemPlace}(h:me v=some (.lit (.int .i64 b),ps)):∃p:Nat,v=BT p 0/\(p:Int)=b:=by
 unfold me at h;split at h
 ·simp at h
 ·rename_i p
  simp only[Bd,Cp,DataW.lit.injEq,Lit.int.injEq]at h;exact⟨p,rfl,h.1.2⟩
 ·cases h
def sr(s:dC):Lit:=.string (uL s).data.toList
theorem ak2(h:sr s=sr r):uL s=uL r:=by
 unfold sr at h;simp only[Lit.string.injEq]at h;apply Dj;apply Array.ext';exact h
structure lU(w:World)(mp:Nat)(mo:Int)(T:Nat->Option dC)(D:DataW Unit):Prop where
 ay:w.ownsMap prog 9 me mp (Maps.size D) D
 len:(Maps.size D:Int)<=mo
 ok:∀kl:Lit,Maps.has D kl=true->∃(b:Nat) (s:dC),D.atKey kl (.lit (.bool false))=.lit (.int .i64 (b:Int))/\T b=some s/\kl=sr s
theorem ad3(h:w.ownsMap prog 9 me mp n D):w.ownsMap prog 9 me mp (Maps.size D) D:=by
 obtain⟨es,clock,hb,F,hs,rfl⟩:=h;have e1:Maps.size (DataW.map ((es.toList.map (Go.WideElems.rg prog 9 me)).foldr DataW.insert []))=es.size:=by simp[Maps.size,length_sorted]
 exact⟨es,clock,hb,F,by rw[e1];exact Ab _,rfl⟩
theorem lU.kept(h:lU w mp mo T D)(k:aa K w w')(hK:¬K mp):lU w' mp mo T D:=⟨jQ h.ay k hK,h.len,h.ok⟩
def z8(T:Nat->Option dC)(p:Nat)(s:dC):Nat->Option dC:=fun i=>if i=p then some s else T i
theorem Th(T:Nat->Option dC)(p:Nat)(s:dC):z8 T p s p=some s:=if_pos rfl
theorem afT(hn:T p=none)(h:T b=some r):z8 T p s b=some r:=by
 unfold z8;rw[if_neg (fun e=>by rw[e,hn]at h;cases h)];exact h
theorem ak3(s:dC):WideAt.IsKeyLit (sr s):=trivial
theorem lU.put(h:∀kl:Lit,Maps.has D kl=true->∃(b:Nat) (s:dC),D.atKey kl (.lit (.bool false))=.lit (.int .i64 (b:Int))/\T b=some s/\kl=sr s)(hD:Maps.Tidy D)(hn:T p=none)(az:(Maps.size D:Int)<mo)(bC:w'.ownsMap prog 9 me mp n (D.put (sr s) (.lit (.int .i64 (p:Int))))):lU w' mp mo (z8 T p s) (D.put (sr s) (.lit (.int .i64 (p:Int)))):=by
 refine⟨ad3 bC,?_,fun kl hk=>?_⟩
 ·rw[Maps.size_put hD];split<;>omega
 ·by_cases e:kl=sr s
  ·subst e;exact⟨p,s,Maps.atKey_put_same hD.isMap (ak3 s) _ _,Th _ _ _,rfl⟩
  ·rw[Maps.has_put_other e]at hk;obtain⟨b,r,h1,h2,h3⟩:=h kl hk;exact⟨b,r,by rw[Maps.atKey_put_other e];exact h1,afT hn h2,h3⟩
theorem aqb{ops:Array Oper}{rest:List Oper}{o:Oper}{a:Act}{Q:Exit->Act->World->Prop}(ia:o.guard=none)(d:Operand)(dT:TypeId)
 (ho:o.op=.call {callee:=.builtin .clear,args:=#[d],argTypes:=#[dT]})(k e:TypeId)(hu:prog.underlying dT=some (.map k e))
 (mp n:Nat)(hd:a.eval d=.map (some mp))(R:Value->Option (DataW Unit×List MemPlace))(D:DataW Unit)(bC:w.ownsMap prog k R mp n D)
 (h:∀w',w'.ownsMap prog k R mp 0 (.map [])->aa (fun i=>i=mp) w w'->wpList prog ops Q rest (a.put o.dst (.tuple #[])) w'):wpList prog ops Q (o::rest) a w:=by
 obtain⟨es,clock,hb,F,hs,rfl⟩:=bC;refine wpList_plain ia fun K hK=>?_
 have tw:(Builtin.clear_ #[dT] o.type #[.map (some mp)]).run prog w=.ok (.tuple #[]) (Go.ChangeMaps.setBlock w mp (.map #[] clock)):=by
  simp only[Builtin.clear_,go_sem];simp[Gi hu,MapKept.run_getObj_map hb,MapKept.run_setObj_map _ hb,Go.ChangeMaps.setBlock]
 have h:=h (Go.ChangeMaps.setBlock w mp (.map #[] clock)) ⟨#[],clock,Go.ChangeMaps.heap_setBlock_same hb _,⟨by simp,by simp[Go.MapKept.Stamped],by simp⟩,by simp,rfl⟩ ⟨rfl,rfl,rfl,by simp[Go.ChangeMaps.setBlock],fun i hi aB=>by
  show(w.heap.setIfInBounds mp _)[i]? =_
  exact C7 (fun e=>aB e.symm)⟩
 unfold Oper.wp;simp[execOp,ho,resolve,invoke,builtin,hd,tw,Result.andThen];exact hK _ _ h
def Uv(ms:List MS)(T:Nat->Option dC):Prop:=∀b s,T b=some s->s.Ok ms/\(s.ah= -1\/s.ah=119\/s.ah=32)
structure yH(w:World)(mp:Nat)(mo:Int)(T:Nat->Option dC)(s:dC)(tv:Value)(e:Ending)(w':World):Prop where
 ex:∃(p:Nat) (T':Nat->Option dC) (D':DataW Unit),e=.returned (BT p 0)/\T' p=some s/\lU w' mp mo T' D'/\(T'=T\/(p=w.heap.size/\T'=z8 T p s/\au w' p #[tv,.int .i32 s.ah,.bool s.mt,.slice none 0 0] 192))
 kept:aa (fun i=>i=mp) w w'
theorem lU.aiS(h:lU w mp mo T D)(hT:Uv ms T)(hm:ms.length<=60000)(hs:s.Ok ms)(ha:s.ah= -1\/s.ah=119\/s.ah=32)(hk:Maps.has D (sr s)=true):∃b:Nat,D.atKey (sr s) (.lit (.bool false))=.lit (.int .i64 (b:Int))/\T b=some s:=by
 obtain⟨b,r,h1,h2,h3⟩:=h.ok _ hk;have e:=ak4 (ak2 h3);have:=ak1 hm hs (hT b r h2).1 ha (hT b r h2).2 e;subst this;exact⟨b,h1,h2⟩
theorem ac6{tb:Nat}(h:au w b (p_ st fo ed cl mo mp nw mk) 159)(hM:lU w mp mo T D)(hmb:mp≠b)(zn:mp<w.heap.size)(fD:2<=mo/\mo<=1000000000)
 (hT:Uv ms T)(hTn:T w.heap.size=none)(hm:ms.length<=4001)(hs:s.Ok ms)(ha:s.ah= -1\/s.ah=119\/s.ah=32)(RJ:pX w tb a s.aX):
 Calls prog 101 #[BT b 0,.agg #[.slice a s.aX.length c,.int .i32 s.ah,.bool s.mt,.slice none 0 0]] w (yH w mp mo T s (.slice a s.aX.length c)):=by
 have gJ:=h.lt;have HB:=ab h;have B0:=au.new w #[.slice a s.aX.length c,.int .i32 s.ah,.bool s.mt,.slice none 0 0] 192;have K0:Hid (aa ai w (w.alloc (.cells #[.slice a s.aX.length c,.int .i32 s.ah,.bool s.mt,.slice none 0 0] 192))):=(aa.refl ai w).alloc _;have F:=ab (ak5 B0 (RJ.kept K0.o (fun _ hx=>hx)) (by have:=hs.bN;omega));have HM:=ab hM
 have Hj:(uL s).size<=100000:=by
  unfold uL;rw[strOfNums_size];unfold tE;rw[Aj]
  have pB:(s.aX.flatMap ym).length=4*s.aX.length:=by
   induction s.aX with
   |nil=>rfl
   |cons t ts ih=>rw[Dn,Aj,ih];simp[ym];omega
  have bT:=hs.bN;rw[pB];simp only[Ax,Bf];omega
 have jr:keyOf prog 9 (.string (uL s))=some (sr s):=El underlying9 (by unfold maxLen;omega);have TA:=ab fun hk=>hM.aiS hT (by omega) hs ha hk
 have HTN:=ab hTn;have yu:=ab B0;clear h hM B0 hT hTn hs ha RJ;generalize eE:uL s=key at*;generalize mE:sr s=kl at*;have ZV:=ab mE;clear eE mE;go_in;go_wp2_with fail;refine(F.o).mono ?_;rintro e w1 ⟨rfl,k1⟩;have k1':=K0.o.trans k1;have bE:=HB.o.kept k1' (fun hx=>hx);have c5:w1.cell? (GB b 5)=some (.map (some mp)):=bE.cell 5;have c4:w1.cell? (GB b 4)=some (GW mo):=bE.cell 4;have iW:=HM.o.kept k1' (fun hx=>hx);have sK:=ab iW;have K1:=ab k1';have sj:=k1'.size;have BN:=ab (yu.o.kept k1 (fun hx=>hx));have ajT:w.heap.size<w1.heap.size:=(yu.o.kept k1 (fun hx=>hx)).lt;have Lv:=ab iW.ay;clear F K0 HB bE k1 k1' iW yu HM
 cases ajE:Maps.has D kl with
 |true=>
  obtain⟨p,h1,h2⟩:=TA.o ajE;have aA:Hid (yH w mp mo T s (.slice a s.aX.length c) (.returned (BT p 0)) w1):=⟨⟨p,T,D,rfl,h2,sK.o,Or.inl rfl⟩,K1.o.mono (fun _ hx=>hx.elim)⟩;have H1:=ab h1;clear h1 h2 TA sK;go_wp2_with (at_lookup;refine Fs _ rfl _ _ 156 rfl 9 157 ss underlying156 me (z:=.pointer none) rfl (.lit (.bool false)) [] rfl mp (Maps.size D) D rfl Lv.o _ _ rfl jr ?_;intro v ps hv;rw[H1.o]at hv;obtain⟨p',rfl,hp⟩:=anH hv;obtain rfl:p'=p:=by omega);go_ret;exact aA.o
 |false=>
  clear TA;have aqR:∀ty,(Builtin.len_ #[156] ty #[.map (some mp)]).run prog w1.drew=.ok (GW (Maps.size D:Int)) w1.drew:=fun ty=>(jQ Lv.o (aa.refl ai w1).drew (fun hx=>hx)).len (t:=156) (e:=157) underlying156 ty
  have hle:=sK.o.len
  have vw:Hid (∀(w5 w6:World) (D5:DataW Unit) (n5:Nat),w5.ownsMap prog 9 me mp n5 D5->(Maps.size D5:Int)<mo->(∀kl:Lit,Maps.has D5 kl=true->∃(b:Nat) (s:dC),D5.atKey kl (.lit (.bool false))=.lit (.int .i64 (b:Int))/\T b=some s/\kl=sr s)->aa (fun i=>i=mp) w1 w5->w6.ownsMap prog 9 me mp (n5+1) (D5.put kl (.lit (.int .i64 (w.heap.size:Int))))->w5.grownBy w6 (some mp)->yH w mp mo T s (.slice a s.aX.length c) (.returned (BT w.heap.size 0)) w6):=fun w5 w6 D5 n5 h5 az dB k5 h6 dM=>by
   have k6:aa (fun i=>i=mp) w1 w6:=k5.alw dM (Or.inl rfl);rw[<-ZV.o]at h6;refine⟨⟨w.heap.size,z8 T w.heap.size s,_,rfl,Th _ _ _,lU.put dB (h5.tidy ss) HTN.o az h6,Or.inr ⟨rfl,rfl,BN.o.kept k6 (fun e=>by omega)⟩⟩,(K1.o.mono (fun _ hx=>hx.elim)).trans k6⟩
  have nA:=ab sK.o.ok;have Lw:=ab (jQ Lv.o (aa.refl ai w1).drew (fun hx=>hx));clear BN K1 sK HTN ZV;by_cases acj:(Maps.size D:Int)=mo
  ·have M6:((Maps.size D:Int)==mo)=true:=(by simpa using acj);go_wp2_with (at_lookup;refine Fs _ rfl _ _ 156 rfl 9 157 ss underlying156 me (z:=.pointer none) rfl (.lit (.bool false)) [] rfl mp (Maps.size D) D rfl Lv.o _ _ rfl jr ?_;intro v ps hv;clear hv);go_region;go_wp2_with (first|(refine aqb rfl (.tmp 33) 156 rfl 9 157 underlying156 mp (Maps.size D) rfl me D Lw.o ?_;intro w5 tp k5;have c5':w5.cell? (GB b 5)=some (.map (some mp)):=(k5.cell (p:=(GB b 5)) (by show b<w1.heap.size;omega) (fun e=>hmb e.symm)).trans c5;have T6:=ab tp;have Pr:=ab k5;clear tp k5)|(at_mapUpdate;refine Es _ rfl _ _ _ 156 rfl 9 157 ss underlying156 me mp 0 (.map []) rfl T6.o (by unfold maxLen;omega) _ _ _ rfl rfl jr (.lit (.int .i64 (w.heap.size:Int))) [] rfl ?_;intro w6 Nw Na));have aA:=ab (vw.o w5 w6 (.map []) 0 T6.o (by show((0:Nat):Int)<mo;omega) (fun kl hk=>by cases hk) (((aa.refl (fun i=>i=mp) w1).drew).trans Pr.o) Nw Na);clear Nw Na vw nA T6 Pr Lw;go_wp2_with fail;go_ret;exact aA.o
  ·have M6:((Maps.size D:Int)==mo)=false:=(by simpa using acj);go_wp2_with (at_lookup;refine Fs _ rfl _ _ 156 rfl 9 157 ss underlying156 me (z:=.pointer none) rfl (.lit (.bool false)) [] rfl mp (Maps.size D) D rfl Lv.o _ _ rfl jr ?_;intro v ps hv;clear hv);go_region;go_wp2_with (at_mapUpdate;refine Es _ rfl _ _ _ 156 rfl 9 157 ss underlying156 me mp (Maps.size D) D rfl Lw.o (by unfold maxLen;omega) _ _ _ rfl rfl jr (.lit (.int .i64 (w.heap.size:Int))) [] rfl ?_;intro w6 Nw Na);have aA:=ab (vw.o _ w6 D _ Lw.o (by omega) nA.o ((aa.refl (fun i=>i=mp) w1).drew) Nw Na);clear Nw Na vw nA Lw;go_wp2_with fail;go_ret;exact aA.o
structure TG where
 B:Nat->Prop
 T:Nat->Option dC
 O:Nat->Nat
structure MC where
 ms:List MS
 st:Int
 cl:List Int
def MC.o(m:MC)(bh:Int)(s:dC):dC×List Int×Option Int:=mL m.ms m.st (jR m.ms bh) bh s
structure qH(w:World)(m:MC)(t:TG)(s:dC)(j q:Nat):Prop where
 ex:∃(tq:Nat) (mv:Value) (bh:Int),((0<=bh/\bh<=1114111)/\ju m.cl bh=j)/\(au w q #[BT tq 0,mv,GW ((m.o bh s).2.2.getD (-1))] 317/\t.B q)/\t.T tq=some (m.o bh s).1/\w.ownsRow 0 3 1 mv (m.o bh s).2.1.length (cQ (m.o bh s).2.1)/\∀i,mv.ownBlock=some i->t.B i
def P_(w:World)(m:MC)(t:TG)(s:dC)(b:Nat)(sv:Value):Prop:=
 sv=.slice none 0 0\/∃(pb:Nat) (cs:List (Option Nat)),sv=.slice (some (GB pb 0)) (m.cl.length+1) (m.cl.length+1)/\(t.B pb/\t.O pb=b)/\cs.length=m.cl.length+1/\au w pb (cs.map fun q=>Value.pointer (q.map fun q=>(GB q 0))).toArray 314/\∀j q,cs[j]? =some (some q)->qH w m t s j q
structure PZ(w:World)(m:MC)(t:TG)(b:Nat)(s:dC):Prop where
 ex:∃(c:Nat) (a:Option Addr) (sv:Value),au w b #[.slice a s.aX.length c,.int .i32 s.ah,.bool s.mt,sv] 192/\(w.ownsRow 0 256 2 (.slice a s.aX.length c) s.aX.length (eU s.aX)/\∀i,(Value.slice a s.aX.length c).ownBlock=some i->t.B i)/\P_ w m t s b sv
 in_:t.B b
structure iV(w:World)(m:MC)(t:TG):Prop where
 st:∀b s,t.T b=some s->PZ w m t b s
 lt:∀i,t.B i->i<w.heap.size
 ok:Uv m.ms t.T
theorem iV.fresh{m:MC}{t:TG}(h:iV w m t)(hb:w.heap.size<=b):t.T b=none:=by
 cases e:t.T b with
 |none=>rfl
 |some s=>have:=h.lt b (h.st b s e).in_;omega
structure TG.le(t t':TG):Prop where
 B:∀i,t.B i->t'.B i
 T:∀b s,t.T b=some s->t'.T b=some s
 O:∀i,t.B i->t'.O i=t.O i
theorem TG.le.refl(t:TG):t.le t:=⟨fun _ h=>h,fun _ _ h=>h,fun _ _=>rfl⟩
theorem TG.le.trans{t t1 t2:TG}(h:t.le t1)(k:t1.le t2):t.le t2:=⟨fun i hi=>k.B i (h.B i hi),fun b s hs=>k.T b s (h.T b s hs),fun i hi=>(k.O i (h.B i hi)).trans (h.O i hi)⟩
theorem qH.fp{m:MC}{t t':TG}(h:qH w m t s j q)(k:aa K w w')(hK:∀i,K i->¬t.B i)(hle:t.le t'):qH w' m t' s j q:=by
 obtain⟨tq,mv,bh,h1,⟨h2,h3⟩,h4,h5,h6⟩:=h.ex;exact⟨tq,mv,bh,h1,⟨h2.kept k (fun hx=>hK _ hx h3),hle.B _ h3⟩,hle.T _ _ h4,bU h5 k (fun i hi hx=>hK _ hx (h6 i hi)),fun i hi=>hle.B _ (h6 i hi)⟩
theorem P_.fp{m:MC}{t t':TG}{sv:Value}(h:P_ w m t s b sv)(k:aa K w w')(hK:∀i,K i->¬t.B i)(hle:t.le t'):P_ w' m t' s b sv:=by
 rcases h with h|⟨pb,cs,h1,⟨h2,h3⟩,h4,h5,h6⟩
 ·exact Or.inl h
 ·exact Or.inr ⟨pb,cs,h1,⟨hle.B _ h2,(hle.O _ h2).trans h3⟩,h4,h5.kept k (fun hx=>hK _ hx h2),fun j q hq=>(h6 j q hq).fp k hK hle⟩
theorem PZ.fp{m:MC}{t t':TG}(h:PZ w m t b s)(k:aa K w w')(hK:∀i,K i->¬t.B i)(hle:t.le t'):PZ w' m t' b s:=by
 obtain⟨c,a,sv,h1,⟨h2,h3⟩,h4⟩:=h.ex;exact⟨⟨c,a,sv,h1.kept k (fun hx=>hK _ hx h.in_),⟨bU h2 k (fun i hi hx=>hK _ hx (h3 i hi)),fun i hi=>hle.B _ (h3 i hi)⟩,h4.fp k hK hle⟩,hle.B _ h.in_⟩
theorem iV.kept{m:MC}{t:TG}(h:iV w m t)(k:aa K w w')(hK:∀i,K i->¬t.B i):iV w' m t:=
 ⟨fun b s hs=>(h.st b s hs).fp k hK (TG.le.refl t),fun i hi=>Ar (h.lt i hi) k.size,h.ok⟩
def TG.add(t:TG)(p:Nat)(s:dC)(tv:Value):TG:=⟨fun i=>t.B i\/i=p\/tv.ownBlock=some i,z8 t.T p s,t.O⟩
theorem TG.UA{t:TG}{tv:Value}(hn:t.T p=none):t.le (t.add p s tv):=⟨fun i hi=>Or.inl hi,fun b r hr=>afT hn hr,fun _ _=>rfl⟩
theorem iV.add{m:MC}{t:TG}(h:iV w m t)(k:aa K w w')(hK:∀i,K i->¬t.B i)(hp:w.heap.size<=p)(hB:au w' p #[.slice a s.aX.length c,.int .i32 s.ah,.bool s.mt,.slice none 0 0] 192)
 (hr:w'.ownsRow base 256 2 (.slice a s.aX.length c) s.aX.length (eU s.aX))(hs:s.Ok m.ms/\(s.ah= -1\/s.ah=119\/s.ah=32)):iV w' m (t.add p s (.slice a s.aX.length c)):=by
 have hn:=h.fresh hp;refine⟨fun b r hb=>?_,fun i hi=>?_,fun b r hb=>?_⟩
 ·by_cases e:b=p
  ·subst e;have:s=r:=by have:=hb;unfold TG.add at this;simp only[Th]at this;cases this;rfl
   subst this;exact⟨⟨c,a,.slice none 0 0,hB,⟨ye hr (Al _),fun i hi=>Or.inr (Or.inr hi)⟩,Or.inl rfl⟩,Or.inr (Or.inl rfl)⟩
  ·have kZ:t.T b=some r:=by have:=hb;unfold TG.add z8 at this;simp only[if_neg e]at this;exact this
   exact(h.st b r kZ).fp k hK (TG.UA hn)
 ·rcases hi with hi|hi|hi
  ·exact Ar (h.lt i hi) k.size
  ·rw[hi];exact hB.lt
  ·exact(dw hr hi).2
 ·by_cases e:b=p
  ·subst e;have:s=r:=by have:=hb;unfold TG.add at this;simp only[Th]at this;cases this;rfl
   subst this;exact hs
  ·have kZ:t.T b=some r:=by have:=hb;unfold TG.add z8 at this;simp only[if_neg e]at this;exact this
   exact h.ok b r kZ
theorem Ma{e size:Nat}{xs:List Value}(hb:au w b cs t)(hr:w.ownsRow base e size v n xs)(aB:t≠e):v.ownBlock≠some b:=fun hx=>by
 rcases hr.2 with⟨rfl,_⟩|⟨g,cap,aO,rfl,_,a2,_⟩
 ·simp[Value.ownBlock]at hx
 ·simp only[Value.ownBlock,Bd]at hx;subst hx;unfold au at hb;rw[a2]at hb;simp only[Bd,Obj.cells.injEq]at hb;exact aB hb.2.1.symm
theorem L_{b':Nat}{Jl:Array Value}{t':TypeId}(h:au w b cs t)(h':au w b' Jl t')(aB:t≠t'):b≠b':=fun e=>by
 subst e;unfold au at h h';rw[h]at h';simp only[Bd,Obj.cells.injEq]at h';exact aB h'.2.1
theorem qH.lr{m:MC}{t t':TG}{ty:TypeId}(h:qH w m t s j q)(hb:au w b cs ty)(h1:ty≠317)(h2:ty≠3)(k:aa (fun i=>i=b) w w')(hle:t.le t'):qH w' m t' s j q:=by
 obtain⟨tq,mv,bh,e1,⟨e2,e3⟩,e4,e5,e6⟩:=h.ex;exact⟨tq,mv,bh,e1,⟨e2.kept k (fun hx=>L_ hb e2 h1 hx.symm),hle.B _ e3⟩,hle.T _ _ e4,bU e5 k (fun i hi hx=>Ma hb e5 h2 (by rw[<-hx];exact hi)),fun i hi=>hle.B _ (e6 i hi)⟩
def TG.Kg(t:TG)(b pb:Nat):TG:=⟨fun i=>t.B i\/i=pb,t.T,fun i=>if i=pb then b else t.O i⟩
theorem TG.adi{t:TG}(hn:¬t.B pb):t.le (t.Kg b pb):=⟨fun i hi=>Or.inl hi,fun _ _ h=>h,fun i hi=>by
 have aB:¬i=pb:=fun e=>hn (by rw[<-e];exact hi)
 unfold TG.Kg;simp only;rw[if_neg aB]⟩
theorem iV.Kg{m:MC}{t:TG}{S8:Value}(h:iV w m t)(hs:t.T b=some s)(h0:au w b #[.slice a s.aX.length c,.int .i32 s.ah,.bool s.mt,S8] 192)(hp:w.heap.size<=pb)(k:aa (fun i=>i=b) w w')
 (hB:au w' b #[.slice a s.aX.length c,.int .i32 s.ah,.bool s.mt,.slice (some (GB pb 0)) (m.cl.length+1) (m.cl.length+1)] 192)(hP:au w' pb ((List.replicate (m.cl.length+1) (none:Option Nat)).map fun q=>Value.pointer (q.map fun q=>(GB q 0))).toArray 314):iV w' m (t.Kg b pb):=by
 have hn:¬t.B pb:=fun hx=>by have:=h.lt pb hx;omega
 have hle:=TG.adi (b:=b) hn;refine⟨fun b' r kZ=>?_,fun i hi=>?_,h.ok⟩
 ·have hr:t.T b'=some r:=kZ;by_cases e:b'=b
  ·subst e;rw[hs]at hr
   cases hr;obtain⟨c',a',yk,e1,⟨e2,e3⟩,_⟩:=(h.st b' s hs).ex
   have ec:(Value.slice a s.aX.length c)=.slice a' s.aX.length c':=by
    have:=h0.cell 0;have h2:=e1.cell 0;rw[this]at h2;simpa using h2
   simp only[A9]at ec;obtain⟨rfl,_,rfl⟩:=ec;refine⟨⟨c,a,_,hB,⟨bU e2 k (fun i hi hx=>Ma e1 e2 (by decide) (by rw[<-hx];exact hi)),fun i hi=>hle.B _ (e3 i hi)⟩,Or.inr ⟨pb,List.replicate (m.cl.length+1) none,rfl,⟨Or.inr rfl,if_pos rfl⟩,by simp,hP,fun j q hq=>?_⟩⟩,hle.B _ (h.st b' s hs).in_⟩;rw[C3]at hq;split at hq<;>cases hq
  ·obtain⟨c',a',yk,e1,⟨e2,e3⟩,e4⟩:=(h.st b' r hr).ex;refine⟨⟨c',a',yk,e1.kept k e,⟨bU e2 k (fun i hi hx=>Ma h0 e2 (by decide) (by rw[<-hx];exact hi)),fun i hi=>hle.B _ (e3 i hi)⟩,?_⟩,hle.B _ (h.st b' r hr).in_⟩;rcases e4 with e4|⟨p',cs,q1,⟨q2,q3⟩,q4,q5,q6⟩
   ·exact Or.inl e4
   ·exact Or.inr ⟨p',cs,q1,⟨hle.B _ q2,(hle.O _ q2).trans q3⟩,q4,q5.kept k (fun hx=>L_ h0 q5 (by decide) hx.symm),fun j q hq=>(q6 j q hq).lr h0 (by decide) (by decide) k hle⟩
 ·rcases hi with hi|hi
  ·exact Ar (h.lt i hi) k.size
  ·rw[hi];exact hP.lt
def TG.grow(t:TG)(q:Nat)(mv:Value):TG:=⟨fun i=>t.B i\/i=q\/mv.ownBlock=some i,t.T,t.O⟩
theorem TG.ai8(t:TG)(q:Nat)(mv:Value):t.le (t.grow q mv):=⟨fun i hi=>Or.inl hi,fun _ _ h=>h,fun _ _=>rfl⟩
theorem aeK:∀(x y:List (Option Nat)),(x.map fun q=>Value.pointer (q.map fun q=>((GB q 0):Addr)))=(y.map fun q=>Value.pointer (q.map fun q=>(GB q 0)))->x=y
 | [],[],_=>rfl
 | [],_::_,h=>by simp at h
 |_::_,[],h=>by simp at h
 |u::us,v::vs,h=>by
  simp only[Ch,Ga,Value.pointer.injEq]at h
  have e:u=v:=by
   have h1:=h.1
   cases u<;>cases v<;>simp at h1<;>first|rfl|(rw[h1])
  rw[e,aeK us vs h.2]
theorem apa(cs:List (Option Nat))(j q:Nat):(cs.map fun q=>Value.pointer (q.map fun q=>(GB q 0))).toArray.setIfInBounds j (BT q 0)=((cs.set j (some q)).map fun q=>Value.pointer (q.map fun q=>(GB q 0))).toArray:=by
 simp[Fj]
theorem iV.set{m:MC}{t:TG}{cs:List (Option Nat)}(h:iV w m t)(hs:t.T b=some s)(h0:au w pb (cs.map fun q=>Value.pointer (q.map fun q=>(GB q 0))).toArray 314)(hO:t.B pb/\t.O pb=b)(hj:j<cs.length)(hS:qH w m t s j q):
 iV (w.setCell (GB pb j) (BT q 0)) m t:=by
 have k:aa (fun i=>i=pb) w (w.setCell (GB pb j) (BT q 0)):=(aa.refl (fun i=>i=pb) w).setCell (p:=(GB pb j)) (Or.inl rfl) _;have hle:=TG.le.refl t;have hP:=h0.setCell j (BT q 0);rw[apa]at hP;refine⟨fun b' r hr=>?_,fun i hi=>Ar (h.lt i hi) k.size,h.ok⟩;obtain⟨c',a',yk,e1,⟨e2,e3⟩,e4⟩:=(h.st b' r hr).ex;refine⟨⟨c',a',yk,e1.kept k (fun hx=>L_ h0 e1 (by decide) hx.symm),⟨bU e2 k (fun i hi hx=>Ma h0 e2 (by decide) (by rw[<-hx];exact hi)),e3⟩,?_⟩,(h.st b' r hr).in_⟩;rcases e4 with e4|⟨p',Jl,q1,⟨q2,q3⟩,q4,q5,q6⟩
 ·exact Or.inl e4
 ·by_cases e:p'=pb
  ·subst e;have xG:b'=b:=(by rw[<-q3,hO.2]);subst xG;rw[hs]at hr
   cases hr
   have ecs:Jl=cs:=by
    have hx:au w p' (Jl.map fun q=>Value.pointer (q.map fun q=>(GB q 0))).toArray 314:=q5;unfold au at hx h0;rw[hx]at h0;simp only[Bd,Obj.cells.injEq,List.toArray_inj,and_true]at h0;exact aeK _ _ (Fp.2 h0)
   subst ecs;refine Or.inr ⟨p',Jl.set j (some q),q1,⟨q2,q3⟩,by rw[Bp];exact q4,hP,fun j' q' pG=>?_⟩;rw[List.getElem?_set]at pG;split at pG
   ·rename_i hjj
    subst hjj
    cases pG;exact hS.lr h0 (by decide) (by decide) k hle
   ·exact(q6 j' q' pG).lr h0 (by decide) (by decide) k hle
  ·exact Or.inr ⟨p',Jl,q1,⟨q2,q3⟩,q4,q5.kept k e,fun j q hq=>(q6 j q hq).lr h0 (by decide) (by decide) k hle⟩
