/- Package marks -/
import Derived.Test.YtpdnofhackjfdaaGreatDoorP33
set_option linter.all false
set_option maxRecDepth 100000
set_option maxHeartbeats 4000000
namespace Go.Proofs.YtpdnofhackjfdaaGreatDoor
open Go.Proofs.Tryz
open Go.RowKit Go.Maps
variable {cs:Array Value} {ed:Bool} {D:DataW Unit} {mo st:Int} {ms:List MS} {r s:dt} {b base c j mp n p pb q:Nat} {T:Nat->Option dt} {K:Nat->Prop} {a:Option Addr} {t:TypeId} {cl fo mk nw v:Value} {w w':World}
theorem Zx(w:World)(c:Int):Calls prog 126 #[.int .i32 c] w fun e w'=>e=.returned (.int .i32 (pY c))/\w'=w:=by
 by_cases h:c= -1
 ·subst h;exact anQ w
 ·have hb:(c== -1)=false:=by simpa using h
  have F:=ab fun(W:World)=>VZ W c
  have e:pY c=if kI c then 119 else 32:=by unfold pY;rw[if_neg h]
  rw[e];obtain⟨wd,pT⟩:∃wd,kI c=wd:=⟨_,rfl⟩
  rw[pT]at F⊢;clear e pT;go_in;go_wp2_with fail;refine(F.o _).mono ?_;rintro e w1 ⟨rfl,rfl⟩
  cases wd
  ·go_wp2_with fail
   go_ret
   exact⟨rfl,rfl⟩
  ·go_wp2_with fail
   go_ret
   exact⟨rfl,rfl⟩
theorem acs{c:Int}(h:aq w b (pM st fo (o_ ms) cl mo mp nw mk) 159):
 Calls prog 102 #[.pointer (some ⟨b,0,none⟩),.int .i32 c] w fun e w'=>e=.returned (.int .i32 (jL ms c))/\w'=w:=by
 have c2:w.cell? ⟨b,2,none⟩=some (.bool (o_ ms)):=h.cell 2;have F:=ab fun(W:World)=>Zx W c
 clear h;unfold jL
 cases he:o_ ms
 ·rw[he]at c2;go_in;go_wp2_with fail;go_ret;exact⟨rfl,rfl⟩
 ·rw[he]at c2;go_in;go_wp2_with fail;refine(F.o _).mono ?_;rintro e w1 ⟨rfl,rfl⟩;go_wp2_with fail;go_ret;exact⟨rfl,rfl⟩
theorem akl{M:List Int}(h:aq w b (pM st fo ed cl mo mp nw mk) 159)(hM:w.ownsRow base 3 1 mk M.length (cY M)):
 Calls prog 231 #[.pointer (some ⟨b,0,none⟩)] w fun e w'=>e=.returned (.tuple #[.int .i64 (M.headD 0),.bool (!M.isEmpty)])/\w'=w:=by
 obtain⟨a,c,hv⟩:=cK hM;subst hv;have c7:w.cell? ⟨b,7,none⟩=some (.slice a M.length c):=h.cell 7
 cases M with
 |nil=>
  simp only[A8]at c7;clear h hM;go_in;go_wp2_with fail;exact Bi (v:=.tuple #[.int .i64 0,.bool false]) (by simp[results,results231,go_sem]) rfl ⟨rfl,rfl⟩
 |cons x xs=>
  obtain⟨g,cg,e1,_,wX,_,h_,_⟩:=mG hM (by simp);obtain⟨eA,eC⟩:a=some ⟨g,0,none⟩/\c=cg:=by simpa using e1
  have z:w.cell? ⟨g,0,none⟩=some (.int .i64 x):=by rw[h_ 0 (by simp)];rfl
  obtain⟨n,hn⟩:∃n,n=(x::xs).length:=⟨_,rfl⟩
  rw[<-hn]at c7;have Mp:(n:Int)≠0:=by rw[hn];simp;omega
  have pj:¬(n:Int)<=0:=by omega
  have jW:((n:Int)==0)=false:=by simpa using Mp
  clear h hM hn e1 h_ eC;subst eA;go_in;go_wp2_with fail;exact Bi (v:=.tuple #[.int .i64 x,.bool true]) (by simp[results,results231,go_sem]) rfl ⟨rfl,rfl⟩
open Go.Shelf Go.Lib Go.Sort
def vc(cl:List Int)(i:Nat):Int:=cl.getD i 0
theorem alN(w:World)(Bs Bc bs i cap n:Nat)(r x:Int)(h1:w.cell? ⟨Bs,0,none⟩=some (.slice (some ⟨bs,0,none⟩) n cap))(h2:w.cell? ⟨Bc,0,none⟩=some (.int .i32 r))(h3:w.cell? ⟨bs,i,none⟩=some (.int .i32 x))(hi:i<n)(hl:n<=100000000):
 Calls prog 238 #[.int .i64 (i:Int),.pointer (some ⟨Bs,0,none⟩),.pointer (some ⟨Bc,0,none⟩)] w fun e w'=>e=.returned (.bool (decide (r<x)))/\∃q,w'=w.drewN q:=by
 go_in
 go_wp2_with fail
 go_big_quiet (fail)
 go_wp2_with fail
 go_ret
 exact⟨rfl,_,rfl⟩
theorem alk(cl:List Int)(r:Int):(List.range cl.length).countP (fun i=>!decide (r<vc cl i))=jn cl r:=by
 have h:cl=(List.range cl.length).map (vc cl):=by
  apply List.ext_getElem
  ·simp
  ·intro i h1 h2;simp[vc,Af,Ae h1]
 unfold jn;conv=>rhs;rw[h]
 rw[List.countP_map];congr 1;funext i;simp only[Function.comp];rw[Be];simp
theorem alO(w:World)(sa:Option Addr)(sc bs:Nat)(cl:List Int)(r:Int)(ha:cl≠ []->sa=some ⟨bs,0,none⟩/\bs<w.heap.size)(hc:∀i,(h:i<cl.length)->w.cell? ⟨bs,i,none⟩=some (.int .i32 cl[i]))(ht:cl.Pairwise (· <= ·))(hl:cl.length<=100000000):
 Calls prog 235 #[.slice sa cl.length sc,.int .i32 r] w fun e w'=>e=.returned (.int .i64 (jn cl r:Int))/\aa af w w':=by
 obtain⟨W0,vt⟩:∃W0,W0=(w.alloc (.cells #[.slice sa cl.length sc] 154)).alloc (.cells #[.int .i32 r] 21):=⟨_,rfl⟩
 have K0:Hid (aa af w W0):=by rw[vt];exact((aa.refl af w).alloc _).alloc _
 have xm:W0.heap.size=w.heap.size+1+1:=by rw[vt];simp
 have B1:aq W0 w.heap.size #[.slice sa cl.length sc] 154:=by rw[vt];exact(aq.new w _ _).alloc _
 have B2:aq W0 (w.heap.size+1) #[.int .i32 r] 21:=by
  rw[vt];have:=aq.new (w.alloc (.cells #[.slice sa cl.length sc] 154)) #[.int .i32 r] 21;simpa using this
 have eg:∀args w,(callFunc 238 args).run prog w=.ok (.enter 238 args) w:=enters_of func238 (by kernel_rfl) rfl
 have hF:=Any.sort_Search Tryz.aeo 238 #[.pointer (some ⟨w.heap.size,0,none⟩),.pointer (some ⟨w.heap.size+1,0,none⟩)] cl.length (fun i=>decide (r<vc cl i)) W0 eg (by omega)
  (fun m os i hi=>by
    have az:cl≠ []:=by intro e;subst e;simp at hi
    obtain⟨rfl,hb⟩:=ha az;have ck:∀{a:Addr} {v:Value},a.block<W0.heap.size->W0.cell? a=some v->(grow (W0.drewN m) os).cell? a=some v:=(fun aw rD=>cell_grown aw rD m os);have hx:vc cl i=cl[i]:=by unfold vc;rw[Af,Ae hi];rfl
    refine(alN (grow (W0.drewN m) os) w.heap.size (w.heap.size+1) bs i sc cl.length r (vc cl i) (ck (by show w.heap.size<_;omega) (B1.cell 0)) (ck (by show w.heap.size+1<_;omega) (B2.cell 0)) (ck (by show bs<_;omega) ((K0.o.cell (p:=⟨bs,i,none⟩) hb (fun h=>h)).trans (by rw[hx];exact hc i hi))) hi hl).mono ?_;rintro e w' ⟨h1,n,h2⟩;exact⟨h1,n,#[],by rw[h2,grow_empty]⟩)
  (fun a b h1 h2 h=>by
    have ea:vc cl a=cl[a]'(by omega):=by unfold vc;rw[Af,Ae (by omega)];rfl
    have eb:vc cl b=cl[b]'(by omega):=by unfold vc;rw[Af,Ae (by omega)];rfl
    simp only[Az]at h⊢;rw[ea]at h;rw[eb];by_cases e:a=b
    ·subst e;exact h
    ·have:=Cd.1 ht a b (by omega) (by omega) (by omega);omega)
 change Calls prog 139 _ _ _ at hF
 rw[alk]at hF;have HF:=ab hF;clear hF hc ha ht B1 B2 eg;generalize jn cl r=k at*;go_in;go_wp2_with fail;rw[<-vt];refine(HF.o).mono ?_;rintro e w1 ⟨rfl,q,os,rfl⟩;have KF:Hid (aa af w (grow (W0.drewN q) os)):=K0.o.trans (CE (below_grown_sl W0.heap.size W0 q os (Ab _)));generalize hW:grow (W0.drewN q) os=W at*;clear hW;go_wp2_with fail;go_ret;exact⟨rfl,KF.o⟩
def lV(v:Value):Option (DataW Unit×List MemPlace):=match v with
 |.pointer none=>some (.lit (.bool false),[])
 |.pointer (some ⟨b,0,none⟩)=>some (.lit (.int .i64 (b:Int)),[])
 |_=>none
theorem ana{b:Int}{ps:List MemPlace}(h:lV v=some (.lit (.int .i64 b),ps)):∃p:Nat,v=.pointer (some ⟨p,0,none⟩)/\(p:Int)=b:=by
 unfold lV at h;split at h
 ·simp at h
 ·rename_i p
  simp only[Ba,Cm,DataW.lit.injEq,Lit.int.injEq]at h;exact⟨p,rfl,h.1.2⟩
 ·cases h
def rP(s:dt):Lit:=.string (um s).data.toList
theorem akr(h:rP s=rP r):um s=um r:=by
 unfold rP at h;simp only[Lit.string.injEq]at h;apply Fd;apply Array.ext';exact h
structure lH(w:World)(mp:Nat)(mo:Int)(T:Nat->Option dt)(D:DataW Unit):Prop where
 au:w.ownsMap prog 9 lV mp (Maps.size D) D
 len:(Maps.size D:Int)<=mo
 ok:∀kl:Lit,Maps.has D kl=true->∃(b:Nat) (s:dt),D.atKey kl (.lit (.bool false))=.lit (.int .i64 (b:Int))/\T b=some s/\kl=rP s
theorem adm(h:w.ownsMap prog 9 lV mp n D):w.ownsMap prog 9 lV mp (Maps.size D) D:=by
 obtain⟨es,clock,hb,F,hs,rfl⟩:=h;have e1:Maps.size (DataW.map ((es.toList.map (Go.WideElems.rg prog 9 lV)).foldr DataW.insert []))=es.size:=by simp[Maps.size,length_sorted]
 exact⟨es,clock,hb,F,by rw[e1];exact Ab _,rfl⟩
theorem lH.kept(h:lH w mp mo T D)(k:aa K w w')(hK:¬K mp):lH w' mp mo T D:=⟨jK h.au k hK,h.len,h.ok⟩
def zj(T:Nat->Option dt)(p:Nat)(s:dt):Nat->Option dt:=fun i=>if i=p then some s else T i
theorem RV(T:Nat->Option dt)(p:Nat)(s:dt):zj T p s p=some s:=if_pos rfl
theorem ae5(hn:T p=none)(h:T b=some r):zj T p s b=some r:=by
 unfold zj;rw[if_neg (fun e=>by rw[e,hn]at h;cases h)];exact h
theorem aks(s:dt):WideAt.IsKeyLit (rP s):=trivial
theorem lH.put(h:∀kl:Lit,Maps.has D kl=true->∃(b:Nat) (s:dt),D.atKey kl (.lit (.bool false))=.lit (.int .i64 (b:Int))/\T b=some s/\kl=rP s)(hD:Maps.Tidy D)(hn:T p=none)(aw:(Maps.size D:Int)<mo)(bt:w'.ownsMap prog 9 lV mp n (D.put (rP s) (.lit (.int .i64 (p:Int))))):lH w' mp mo (zj T p s) (D.put (rP s) (.lit (.int .i64 (p:Int)))):=by
 refine⟨adm bt,?_,fun kl hk=>?_⟩
 ·rw[Maps.size_put hD];split<;>omega
 ·by_cases e:kl=rP s
  ·subst e;exact⟨p,s,Maps.atKey_put_same hD.isMap (aks s) _ _,RV _ _ _,rfl⟩
  ·rw[Maps.has_put_other e]at hk;obtain⟨b,r,h1,h2,h3⟩:=h kl hk;exact⟨b,r,by rw[Maps.atKey_put_other e];exact h1,ae5 hn h2,h3⟩
theorem apE{ops:Array Oper}{rest:List Oper}{o:Oper}{a:Act}{Q:Exit->Act->World->Prop}(iI:o.guard=none)(d:Operand)(dT:TypeId)
 (ho:o.op=.call {callee:=.builtin .clear,args:=#[d],argTypes:=#[dT]})(k e:TypeId)(hu:prog.underlying dT=some (.map k e))
 (mp n:Nat)(hd:a.eval d=.map (some mp))(R:Value->Option (DataW Unit×List MemPlace))(D:DataW Unit)(bt:w.ownsMap prog k R mp n D)
 (h:∀w',w'.ownsMap prog k R mp 0 (.map [])->aa (fun i=>i=mp) w w'->wpList prog ops Q rest (a.put o.dst (.tuple #[])) w'):wpList prog ops Q (o::rest) a w:=by
 obtain⟨es,clock,hb,F,hs,rfl⟩:=bt;refine wpList_plain iI fun K hK=>?_
 have sY:(Builtin.clear_ #[dT] o.type #[.map (some mp)]).run prog w=.ok (.tuple #[]) (Go.ChangeMaps.setBlock w mp (.map #[] clock)):=by
  simp only[Builtin.clear_,go_sem];simp[Gh hu,MapKept.run_getObj_map hb,MapKept.run_setObj_map _ hb,Go.ChangeMaps.setBlock]
 have h:=h (Go.ChangeMaps.setBlock w mp (.map #[] clock)) ⟨#[],clock,Go.ChangeMaps.heap_setBlock_same hb _,⟨by simp,by simp[Go.MapKept.Stamped],by simp⟩,by simp,rfl⟩ ⟨rfl,rfl,rfl,by simp[Go.ChangeMaps.setBlock],fun i hi az=>by
  show(w.heap.setIfInBounds mp _)[i]? =_
  exact C4 (fun e=>az e.symm)⟩
 unfold Oper.wp;simp[execOp,ho,resolve,invoke,builtin,hd,sY,Result.andThen];exact hK _ _ h
def Tg(ms:List MS)(T:Nat->Option dt):Prop:=∀b s,T b=some s->s.Ok ms/\(s.ah= -1\/s.ah=119\/s.ah=32)
structure x9(w:World)(mp:Nat)(mo:Int)(T:Nat->Option dt)(s:dt)(tv:Value)(e:Ending)(w':World):Prop where
 ex:∃(p:Nat) (T':Nat->Option dt) (D':DataW Unit),e=.returned (.pointer (some ⟨p,0,none⟩))/\T' p=some s/\lH w' mp mo T' D'/\(T'=T\/(p=w.heap.size/\T'=zj T p s/\aq w' p #[tv,.int .i32 s.ah,.bool s.mt,.slice none 0 0] 192))
 kept:aa (fun i=>i=mp) w w'
theorem lH.aid(h:lH w mp mo T D)(hT:Tg ms T)(hm:ms.length<=60000)(hs:s.Ok ms)(ha:s.ah= -1\/s.ah=119\/s.ah=32)(hk:Maps.has D (rP s)=true):∃b:Nat,D.atKey (rP s) (.lit (.bool false))=.lit (.int .i64 (b:Int))/\T b=some s:=by
 obtain⟨b,r,h1,h2,h3⟩:=h.ok _ hk;have e:=akt (akr h3);have:=akq hm hs (hT b r h2).1 ha (hT b r h2).2 e;subst this;exact⟨b,h1,h2⟩
theorem acn{tb:Nat}(h:aq w b (pM st fo ed cl mo mp nw mk) 159)(hM:lH w mp mo T D)(hmb:mp≠b)(yz:mp<w.heap.size)(gI:2<=mo/\mo<=1000000000)
 (hT:Tg ms T)(hTn:T w.heap.size=none)(hm:ms.length<=4001)(hs:s.Ok ms)(ha:s.ah= -1\/s.ah=119\/s.ah=32)(QE:pI w tb a s.aV):
 Calls prog 101 #[.pointer (some ⟨b,0,none⟩),.agg #[.slice a s.aV.length c,.int .i32 s.ah,.bool s.mt,.slice none 0 0]] w (x9 w mp mo T s (.slice a s.aV.length c)):=by
 have gD:=h.lt;have HB:=ab h;have B0:=aq.new w #[.slice a s.aV.length c,.int .i32 s.ah,.bool s.mt,.slice none 0 0] 192;have K0:Hid (aa af w (w.alloc (.cells #[.slice a s.aV.length c,.int .i32 s.ah,.bool s.mt,.slice none 0 0] 192))):=(aa.refl af w).alloc _;have F:=ab (aku B0 (QE.kept K0.o (fun _ hx=>hx)) (by have:=hs.bJ;omega));have HM:=ab hM
 have Jb:(um s).size<=100000:=by
  unfold um;rw[strOfNums_size];unfold te;rw[Aj]
  have pg:(s.aV.flatMap xH).length=4*s.aV.length:=by
   induction s.aV with
   |nil=>rfl
   |cons t ts ih=>rw[C5,Aj,ih];simp[xH];omega
  have bP:=hs.bJ;rw[pg];simp only[Av,A8];omega
 have jk:keyOf prog 9 (.string (um s))=some (rP s):=El underlying9 (by unfold maxLen;omega);have Sj:=ab fun hk=>hM.aid hT (by omega) hs ha hk
 have Y3:=ab hTn;have xP:=ab B0;clear h hM B0 hT hTn hs ha QE;generalize eZ:um s=key at*;generalize oA:rP s=kl at*;have YJ:=ab oA;clear eZ oA;go_in;go_wp2_with fail;refine(F.o).mono ?_;rintro e w1 ⟨rfl,k1⟩;have k1':=K0.o.trans k1;have bE:=HB.o.kept k1' (fun hx=>hx);have c5:w1.cell? ⟨b,5,none⟩=some (.map (some mp)):=bE.cell 5;have c4:w1.cell? ⟨b,4,none⟩=some (.int .i64 mo):=bE.cell 4;have iG:=HM.o.kept k1' (fun hx=>hx);have si:=ab iG;have K1:=ab k1';have rN:=k1'.size;have BN:=ab (xP.o.kept k1 (fun hx=>hx));have aji:w.heap.size<w1.heap.size:=(xP.o.kept k1 (fun hx=>hx)).lt;have Kz:=ab iG.au;clear F K0 HB bE k1 k1' iG xP HM
 cases ai2:Maps.has D kl with
 |true=>
  obtain⟨p,h1,h2⟩:=Sj.o ai2;have ax:Hid (x9 w mp mo T s (.slice a s.aV.length c) (.returned (.pointer (some ⟨p,0,none⟩))) w1):=⟨⟨p,T,D,rfl,h2,si.o,Or.inl rfl⟩,K1.o.mono (fun _ hx=>hx.elim)⟩;have H1:=ab h1;clear h1 h2 Sj si;go_wp2_with (at_lookup;refine Fs _ rfl _ _ 156 rfl 9 157 rQ underlying156 lV (z:=.pointer none) rfl (.lit (.bool false)) [] rfl mp (Maps.size D) D rfl Kz.o _ _ rfl jk ?_;intro v ps hv;rw[H1.o]at hv;obtain⟨p',rfl,hp⟩:=ana hv;obtain rfl:p'=p:=by omega);go_ret;exact ax.o
 |false=>
  clear Sj;have aqm:∀ty,(Builtin.len_ #[156] ty #[.map (some mp)]).run prog w1.drew=.ok (.int .i64 (Maps.size D:Int)) w1.drew:=fun ty=>(jK Kz.o (aa.refl af w1).drew (fun hx=>hx)).len (t:=156) (e:=157) underlying156 ty
  have hle:=si.o.len
  have uR:Hid (∀(w5 w6:World) (D5:DataW Unit) (n5:Nat),w5.ownsMap prog 9 lV mp n5 D5->(Maps.size D5:Int)<mo->(∀kl:Lit,Maps.has D5 kl=true->∃(b:Nat) (s:dt),D5.atKey kl (.lit (.bool false))=.lit (.int .i64 (b:Int))/\T b=some s/\kl=rP s)->aa (fun i=>i=mp) w1 w5->w6.ownsMap prog 9 lV mp (n5+1) (D5.put kl (.lit (.int .i64 (w.heap.size:Int))))->w5.grownBy w6 (some mp)->x9 w mp mo T s (.slice a s.aV.length c) (.returned (.pointer (some ⟨w.heap.size,0,none⟩))) w6):=fun w5 w6 D5 n5 h5 aw dD k5 h6 dN=>by
   have k6:aa (fun i=>i=mp) w1 w6:=k5.akW dN (Or.inl rfl);rw[<-YJ.o]at h6;refine⟨⟨w.heap.size,zj T w.heap.size s,_,rfl,RV _ _ _,lH.put dD (h5.tidy rQ) Y3.o aw h6,Or.inr ⟨rfl,rfl,BN.o.kept k6 (fun e=>by omega)⟩⟩,(K1.o.mono (fun _ hx=>hx.elim)).trans k6⟩
  have kJ:=ab si.o.ok;have KC:=ab (jK Kz.o (aa.refl af w1).drew (fun hx=>hx));clear BN K1 si Y3 YJ;by_cases abz:(Maps.size D:Int)=mo
  ·have Me:((Maps.size D:Int)==mo)=true:=(by simpa using abz);go_wp2_with (at_lookup;refine Fs _ rfl _ _ 156 rfl 9 157 rQ underlying156 lV (z:=.pointer none) rfl (.lit (.bool false)) [] rfl mp (Maps.size D) D rfl Kz.o _ _ rfl jk ?_;intro v ps hv;clear hv);go_region;go_wp2_with (first|(refine apE rfl (.tmp 33) 156 rfl 9 157 underlying156 mp (Maps.size D) rfl lV D KC.o ?_;intro w5 sU k5;have c5':w5.cell? ⟨b,5,none⟩=some (.map (some mp)):=(k5.cell (p:=⟨b,5,none⟩) (by show b<w1.heap.size;omega) (fun e=>hmb e.symm)).trans c5;have SH:=ab sU;have Ol:=ab k5;clear sU k5)|(at_mapUpdate;refine Eq _ rfl _ _ _ 156 rfl 9 157 rQ underlying156 lV mp 0 (.map []) rfl SH.o (by unfold maxLen;omega) _ _ _ rfl rfl jk (.lit (.int .i64 (w.heap.size:Int))) [] rfl ?_;intro w6 Mz Mh));have ax:=ab (uR.o w5 w6 (.map []) 0 SH.o (by show((0:Nat):Int)<mo;omega) (fun kl hk=>by cases hk) (((aa.refl (fun i=>i=mp) w1).drew).trans Ol.o) Mz Mh);clear Mz Mh uR kJ SH Ol KC;go_wp2_with fail;go_ret;exact ax.o
  ·have Me:((Maps.size D:Int)==mo)=false:=(by simpa using abz);go_wp2_with (at_lookup;refine Fs _ rfl _ _ 156 rfl 9 157 rQ underlying156 lV (z:=.pointer none) rfl (.lit (.bool false)) [] rfl mp (Maps.size D) D rfl Kz.o _ _ rfl jk ?_;intro v ps hv;clear hv);go_region;go_wp2_with (at_mapUpdate;refine Eq _ rfl _ _ _ 156 rfl 9 157 rQ underlying156 lV mp (Maps.size D) D rfl KC.o (by unfold maxLen;omega) _ _ _ rfl rfl jk (.lit (.int .i64 (w.heap.size:Int))) [] rfl ?_;intro w6 Mz Mh);have ax:=ab (uR.o _ w6 D _ KC.o (by omega) kJ.o ((aa.refl (fun i=>i=mp) w1).drew) Mz Mh);clear Mz Mh uR kJ KC;go_wp2_with fail;go_ret;exact ax.o
structure TG where
 B:Nat->Prop
 T:Nat->Option dt
 O:Nat->Nat
structure MC where
 ms:List MS
 st:Int
 cl:List Int
def MC.o(m:MC)(bh:Int)(s:dt):dt×List Int×Option Int:=mC m.ms m.st (jL m.ms bh) bh s
structure ql(w:World)(m:MC)(t:TG)(s:dt)(j q:Nat):Prop where
 ex:∃(tq:Nat) (mv:Value) (bh:Int),((0<=bh/\bh<=1114111)/\jn m.cl bh=j)/\(aq w q #[.pointer (some ⟨tq,0,none⟩),mv,.int .i64 ((m.o bh s).2.2.getD (-1))] 317/\t.B q)/\t.T tq=some (m.o bh s).1/\w.ownsRow 0 3 1 mv (m.o bh s).2.1.length (cY (m.o bh s).2.1)/\∀i,mv.ownBlock=some i->t.B i
def OJ(w:World)(m:MC)(t:TG)(s:dt)(b:Nat)(sv:Value):Prop:=
 sv=.slice none 0 0\/∃(pb:Nat) (cs:List (Option Nat)),sv=.slice (some ⟨pb,0,none⟩) (m.cl.length+1) (m.cl.length+1)/\(t.B pb/\t.O pb=b)/\cs.length=m.cl.length+1/\aq w pb (cs.map fun q=>Value.pointer (q.map fun q=>⟨q,0,none⟩)).toArray 314/\∀j q,cs[j]? =some (some q)->ql w m t s j q
structure OI(w:World)(m:MC)(t:TG)(b:Nat)(s:dt):Prop where
 ex:∃(c:Nat) (a:Option Addr) (sv:Value),aq w b #[.slice a s.aV.length c,.int .i32 s.ah,.bool s.mt,sv] 192/\(w.ownsRow 0 256 2 (.slice a s.aV.length c) s.aV.length (eI s.aV)/\∀i,(Value.slice a s.aV.length c).ownBlock=some i->t.B i)/\OJ w m t s b sv
 in_:t.B b
structure iE(w:World)(m:MC)(t:TG):Prop where
 st:∀b s,t.T b=some s->OI w m t b s
 lt:∀i,t.B i->i<w.heap.size
 ok:Tg m.ms t.T
theorem iE.fresh{m:MC}{t:TG}(h:iE w m t)(hb:w.heap.size<=b):t.T b=none:=by
 cases e:t.T b with
 |none=>rfl
 |some s=>have:=h.lt b (h.st b s e).in_;omega
structure TG.le(t t':TG):Prop where
 B:∀i,t.B i->t'.B i
 T:∀b s,t.T b=some s->t'.T b=some s
 O:∀i,t.B i->t'.O i=t.O i
theorem TG.le.refl(t:TG):t.le t:=⟨fun _ h=>h,fun _ _ h=>h,fun _ _=>rfl⟩
theorem TG.le.trans{t t1 t2:TG}(h:t.le t1)(k:t1.le t2):t.le t2:=⟨fun i hi=>k.B i (h.B i hi),fun b s hs=>k.T b s (h.T b s hs),fun i hi=>(k.O i (h.B i hi)).trans (h.O i hi)⟩
theorem ql.eG{m:MC}{t t':TG}(h:ql w m t s j q)(k:aa K w w')(hK:∀i,K i->¬t.B i)(hle:t.le t'):ql w' m t' s j q:=by
 obtain⟨tq,mv,bh,h1,⟨h2,h3⟩,h4,h5,h6⟩:=h.ex;exact⟨tq,mv,bh,h1,⟨h2.kept k (fun hx=>hK _ hx h3),hle.B _ h3⟩,hle.T _ _ h4,bY h5 k (fun i hi hx=>hK _ hx (h6 i hi)),fun i hi=>hle.B _ (h6 i hi)⟩
theorem OJ.eG{m:MC}{t t':TG}{sv:Value}(h:OJ w m t s b sv)(k:aa K w w')(hK:∀i,K i->¬t.B i)(hle:t.le t'):OJ w' m t' s b sv:=by
 rcases h with h|⟨pb,cs,h1,⟨h2,h3⟩,h4,h5,h6⟩
 ·exact Or.inl h
 ·exact Or.inr ⟨pb,cs,h1,⟨hle.B _ h2,(hle.O _ h2).trans h3⟩,h4,h5.kept k (fun hx=>hK _ hx h2),fun j q hq=>(h6 j q hq).eG k hK hle⟩
theorem OI.eG{m:MC}{t t':TG}(h:OI w m t b s)(k:aa K w w')(hK:∀i,K i->¬t.B i)(hle:t.le t'):OI w' m t' b s:=by
 obtain⟨c,a,sv,h1,⟨h2,h3⟩,h4⟩:=h.ex;exact⟨⟨c,a,sv,h1.kept k (fun hx=>hK _ hx h.in_),⟨bY h2 k (fun i hi hx=>hK _ hx (h3 i hi)),fun i hi=>hle.B _ (h3 i hi)⟩,h4.eG k hK hle⟩,hle.B _ h.in_⟩
theorem iE.kept{m:MC}{t:TG}(h:iE w m t)(k:aa K w w')(hK:∀i,K i->¬t.B i):iE w' m t:=
 ⟨fun b s hs=>(h.st b s hs).eG k hK (TG.le.refl t),fun i hi=>As (h.lt i hi) k.size,h.ok⟩
def TG.add(t:TG)(p:Nat)(s:dt)(tv:Value):TG:=⟨fun i=>t.B i\/i=p\/tv.ownBlock=some i,zj t.T p s,t.O⟩
theorem TG.Tl{t:TG}{tv:Value}(hn:t.T p=none):t.le (t.add p s tv):=⟨fun i hi=>Or.inl hi,fun b r hr=>ae5 hn hr,fun _ _=>rfl⟩
theorem iE.add{m:MC}{t:TG}(h:iE w m t)(k:aa K w w')(hK:∀i,K i->¬t.B i)(hp:w.heap.size<=p)(hB:aq w' p #[.slice a s.aV.length c,.int .i32 s.ah,.bool s.mt,.slice none 0 0] 192)
 (hr:w'.ownsRow base 256 2 (.slice a s.aV.length c) s.aV.length (eI s.aV))(hs:s.Ok m.ms/\(s.ah= -1\/s.ah=119\/s.ah=32)):iE w' m (t.add p s (.slice a s.aV.length c)):=by
 have hn:=h.fresh hp;refine⟨fun b r hb=>?_,fun i hi=>?_,fun b r hb=>?_⟩
 ·by_cases e:b=p
  ·subst e;have:s=r:=by have:=hb;unfold TG.add at this;simp only[RV]at this;cases this;rfl
   subst this;exact⟨⟨c,a,.slice none 0 0,hB,⟨CN hr (Ao _),fun i hi=>Or.inr (Or.inr hi)⟩,Or.inl rfl⟩,Or.inr (Or.inl rfl)⟩
  ·have jV:t.T b=some r:=by have:=hb;unfold TG.add zj at this;simp only[if_neg e]at this;exact this
   exact(h.st b r jV).eG k hK (TG.Tl hn)
 ·rcases hi with hi|hi|hi
  ·exact As (h.lt i hi) k.size
  ·rw[hi];exact hB.lt
  ·exact(dE hr hi).2
 ·by_cases e:b=p
  ·subst e;have:s=r:=by have:=hb;unfold TG.add at this;simp only[RV]at this;cases this;rfl
   subst this;exact hs
  ·have jV:t.T b=some r:=by have:=hb;unfold TG.add zj at this;simp only[if_neg e]at this;exact this
   exact h.ok b r jV
theorem Lk{e size:Nat}{xs:List Value}(hb:aq w b cs t)(hr:w.ownsRow base e size v n xs)(az:t≠e):v.ownBlock≠some b:=fun hx=>by
 rcases hr.2 with⟨rfl,_⟩|⟨g,cap,aM,rfl,_,a2,_⟩
 ·simp[Value.ownBlock]at hx
 ·simp only[Value.ownBlock,Ba]at hx;subst hx;unfold aq at hb;rw[a2]at hb;simp only[Ba,Obj.cells.injEq]at hb;exact az hb.2.1.symm
theorem Lj{b':Nat}{IK:Array Value}{t':TypeId}(h:aq w b cs t)(h':aq w b' IK t')(az:t≠t'):b≠b':=fun e=>by
 subst e;unfold aq at h h';rw[h]at h';simp only[Ba,Obj.cells.injEq]at h';exact az h'.2.1
theorem ql.l8{m:MC}{t t':TG}{ty:TypeId}(h:ql w m t s j q)(hb:aq w b cs ty)(h1:ty≠317)(h2:ty≠3)(k:aa (fun i=>i=b) w w')(hle:t.le t'):ql w' m t' s j q:=by
 obtain⟨tq,mv,bh,e1,⟨e2,e3⟩,e4,e5,e6⟩:=h.ex;exact⟨tq,mv,bh,e1,⟨e2.kept k (fun hx=>Lj hb e2 h1 hx.symm),hle.B _ e3⟩,hle.T _ _ e4,bY e5 k (fun i hi hx=>Lk hb e5 h2 (by rw[<-hx];exact hi)),fun i hi=>hle.B _ (e6 i hi)⟩
def TG.JF(t:TG)(b pb:Nat):TG:=⟨fun i=>t.B i\/i=pb,t.T,fun i=>if i=pb then b else t.O i⟩
theorem TG.acy{t:TG}(hn:¬t.B pb):t.le (t.JF b pb):=⟨fun i hi=>Or.inl hi,fun _ _ h=>h,fun i hi=>by
 have az:¬i=pb:=fun e=>hn (by rw[<-e];exact hi)
 unfold TG.JF;simp only;rw[if_neg az]⟩
theorem iE.JF{m:MC}{t:TG}{RL:Value}(h:iE w m t)(hs:t.T b=some s)(h0:aq w b #[.slice a s.aV.length c,.int .i32 s.ah,.bool s.mt,RL] 192)(hp:w.heap.size<=pb)(k:aa (fun i=>i=b) w w')
 (hB:aq w' b #[.slice a s.aV.length c,.int .i32 s.ah,.bool s.mt,.slice (some ⟨pb,0,none⟩) (m.cl.length+1) (m.cl.length+1)] 192)(hP:aq w' pb ((List.replicate (m.cl.length+1) (none:Option Nat)).map fun q=>Value.pointer (q.map fun q=>⟨q,0,none⟩)).toArray 314):iE w' m (t.JF b pb):=by
 have hn:¬t.B pb:=fun hx=>by have:=h.lt pb hx;omega
 have hle:=TG.acy (b:=b) hn;refine⟨fun b' r jV=>?_,fun i hi=>?_,h.ok⟩
 ·have hr:t.T b'=some r:=jV;by_cases e:b'=b
  ·subst e;rw[hs]at hr
   cases hr;obtain⟨c',a',xF,e1,⟨e2,e3⟩,_⟩:=(h.st b' s hs).ex
   have ec:(Value.slice a s.aV.length c)=.slice a' s.aV.length c':=by
    have:=h0.cell 0;have h2:=e1.cell 0;rw[this]at h2;simpa using h2
   simp only[Bq]at ec;obtain⟨rfl,_,rfl⟩:=ec;refine⟨⟨c,a,_,hB,⟨bY e2 k (fun i hi hx=>Lk e1 e2 (by decide) (by rw[<-hx];exact hi)),fun i hi=>hle.B _ (e3 i hi)⟩,Or.inr ⟨pb,List.replicate (m.cl.length+1) none,rfl,⟨Or.inr rfl,if_pos rfl⟩,by simp,hP,fun j q hq=>?_⟩⟩,hle.B _ (h.st b' s hs).in_⟩;rw[Cr]at hq;split at hq<;>cases hq
  ·obtain⟨c',a',xF,e1,⟨e2,e3⟩,e4⟩:=(h.st b' r hr).ex;refine⟨⟨c',a',xF,e1.kept k e,⟨bY e2 k (fun i hi hx=>Lk h0 e2 (by decide) (by rw[<-hx];exact hi)),fun i hi=>hle.B _ (e3 i hi)⟩,?_⟩,hle.B _ (h.st b' r hr).in_⟩;rcases e4 with e4|⟨p',cs,q1,⟨q2,q3⟩,q4,q5,q6⟩
   ·exact Or.inl e4
   ·exact Or.inr ⟨p',cs,q1,⟨hle.B _ q2,(hle.O _ q2).trans q3⟩,q4,q5.kept k (fun hx=>Lj h0 q5 (by decide) hx.symm),fun j q hq=>(q6 j q hq).l8 h0 (by decide) (by decide) k hle⟩
 ·rcases hi with hi|hi
  ·exact As (h.lt i hi) k.size
  ·rw[hi];exact hP.lt
def TG.grow(t:TG)(q:Nat)(mv:Value):TG:=⟨fun i=>t.B i\/i=q\/mv.ownBlock=some i,t.T,t.O⟩
theorem TG.ait(t:TG)(q:Nat)(mv:Value):t.le (t.grow q mv):=⟨fun i hi=>Or.inl hi,fun _ _ h=>h,fun _ _=>rfl⟩
theorem ad1:∀(x y:List (Option Nat)),(x.map fun q=>Value.pointer (q.map fun q=>(⟨q,0,none⟩:Addr)))=(y.map fun q=>Value.pointer (q.map fun q=>⟨q,0,none⟩))->x=y
 | [],[],_=>rfl
 | [],_::_,h=>by simp at h
 |_::_,[],h=>by simp at h
 |u::us,v::vs,h=>by
  simp only[Bw,F7,Value.pointer.injEq]at h
  have e:u=v:=by
   have h1:=h.1
   cases u<;>cases v<;>simp at h1<;>first|rfl|(rw[h1])
  rw[e,ad1 us vs h.2]
theorem aoA(cs:List (Option Nat))(j q:Nat):(cs.map fun q=>Value.pointer (q.map fun q=>⟨q,0,none⟩)).toArray.setIfInBounds j (.pointer (some ⟨q,0,none⟩))=((cs.set j (some q)).map fun q=>Value.pointer (q.map fun q=>⟨q,0,none⟩)).toArray:=by
 simp[Fk]
theorem iE.set{m:MC}{t:TG}{cs:List (Option Nat)}(h:iE w m t)(hs:t.T b=some s)(h0:aq w pb (cs.map fun q=>Value.pointer (q.map fun q=>⟨q,0,none⟩)).toArray 314)(hO:t.B pb/\t.O pb=b)(hj:j<cs.length)(hS:ql w m t s j q):
 iE (w.setCell ⟨pb,j,none⟩ (.pointer (some ⟨q,0,none⟩))) m t:=by
 have k:aa (fun i=>i=pb) w (w.setCell ⟨pb,j,none⟩ (.pointer (some ⟨q,0,none⟩))):=(aa.refl (fun i=>i=pb) w).setCell (p:=⟨pb,j,none⟩) (Or.inl rfl) _;have hle:=TG.le.refl t;have hP:=h0.setCell j (.pointer (some ⟨q,0,none⟩));rw[aoA]at hP;refine⟨fun b' r hr=>?_,fun i hi=>As (h.lt i hi) k.size,h.ok⟩;obtain⟨c',a',xF,e1,⟨e2,e3⟩,e4⟩:=(h.st b' r hr).ex;refine⟨⟨c',a',xF,e1.kept k (fun hx=>Lj h0 e1 (by decide) hx.symm),⟨bY e2 k (fun i hi hx=>Lk h0 e2 (by decide) (by rw[<-hx];exact hi)),e3⟩,?_⟩,(h.st b' r hr).in_⟩;rcases e4 with e4|⟨p',IK,q1,⟨q2,q3⟩,q4,q5,q6⟩
 ·exact Or.inl e4
 ·by_cases e:p'=pb
  ·subst e;have wV:b'=b:=(by rw[<-q3,hO.2]);subst wV;rw[hs]at hr
   cases hr
   have ecs:IK=cs:=by
    have hx:aq w p' (IK.map fun q=>Value.pointer (q.map fun q=>⟨q,0,none⟩)).toArray 314:=q5;unfold aq at hx h0;rw[hx]at h0;simp only[Ba,Obj.cells.injEq,List.toArray_inj,and_true]at h0;exact ad1 _ _ (Fq.2 h0)
   subst ecs;refine Or.inr ⟨p',IK.set j (some q),q1,⟨q2,q3⟩,by rw[Bm];exact q4,hP,fun j' q' qE=>?_⟩;rw[List.getElem?_set]at qE;split at qE
   ·rename_i hjj
    subst hjj
    cases qE;exact hS.l8 h0 (by decide) (by decide) k hle
   ·exact(q6 j' q' qE).l8 h0 (by decide) (by decide) k hle
  ·exact Or.inr ⟨p',IK,q1,⟨q2,q3⟩,q4,q5.kept k e,fun j q hq=>(q6 j q hq).l8 h0 (by decide) (by decide) k hle⟩
