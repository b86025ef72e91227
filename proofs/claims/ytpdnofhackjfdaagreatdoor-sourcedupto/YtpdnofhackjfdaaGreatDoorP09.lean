/- The program -/
import Derived.Test.YtpdnofhackjfdaaGreatDoorP08
set_option linter.all false
set_option maxRecDepth 100000
set_option maxHeartbeats 2000000
namespace Go.Proofs.YtpdnofhackjfdaaGreatDoor
open Go.Proofs.Tryz
open Go.RowKit Go.Maps
variable {s:ByteArray} {F:cV} {c:Int} {ps rs:List Int} {b i j pos:Nat} {o:Obj} {v' vp vr:Value} {w w' w0 w4:World}
def gT(s:ByteArray):Nat->Nat->List (Nat×Int)
 |0,_=>[]
 |m+1,pos=>if pos<s.size then(pos,((Utf8.decode s pos).1:Int))::gT s m (pos+(Utf8.decode s pos).2)else []
def NR(s:ByteArray)(p:Nat×Int):Bool:=p.2==65533&& !(Lib.hasPrefix (s.extract p.1 s.size).data.toList [239,191,189])
def Mx:cV:=⟨none,none,none,none,none,none⟩
def s_(s:ByteArray)(l:List (Nat×Int)):cV:=l.foldl (fun F p=>if NR s p then F.eN 2 p.1 else F) Mx
theorem U9(s:ByteArray)(l:List (Nat×Int))(p:Nat×Int):s_ s (l++[p])=if NR s p then(s_ s l).eN 2 p.1 else s_ s l:=by simp[s_]
theorem ah_(s:ByteArray)(pos:Nat)(h:pos<s.size):1<=(Utf8.decode s pos).2:=by
 by_cases ha:(s[pos]'h).toNat<128
 ·rw[decode_ascii s pos h ha];exact Ab _
 ·exact(decode_high s pos h (by omega)).2
theorem aot(s:ByteArray)(m pos:Nat)(h:¬pos<s.size):gT s m pos=[]:=by
 cases m with
 |zero=>rfl
 |succ m=>unfold gT;rw[if_neg h]
theorem Ys(s:ByteArray):∀(m pos:Nat) (p:Nat×Int),p∈gT s m pos->0<=p.2/\p.2<=1114111
 |0,_,p,h=>by simp[gT]at h
 |m+1,pos,p,h=>by
  unfold gT at h;split at h
  ·rcases Ct.1 h with rfl|h
   ·have:=Lib.rune_le s pos;simp only;omega
   ·exact Ys s m _ p h
  ·simp at h
theorem amc{bf:Nat}{D:DataW Unit}(c3:w.cell? ⟨b,3,none⟩=some (.map (some bf)))(hD:w.ownsMap prog 25 (plainElem (H:=Unit) prog 3) bf (Maps.size D) D)(hF:wY D F)(e p:Int)(he:2<=e/\e<=7)(hp:0<=p/\p<=300):
 Calls prog 40 #[BT b 0,.int .i64 e,.int .i64 p] w fun en w'=>en=.returned (.tuple #[])/\(∃D',w'.ownsMap prog 25 (plainElem (H:=Unit) prog 3) bf (Maps.size D') D'/\wY D' (F.eN e p))/\aa (fun i=>i=bf) w w':=by
 have jr:keyOf prog 25 (.int .i64 e)=some (.int .i64 e):=keyOf_int_mk underlying25 (Dd (by omega));have aW:Maps.size D<maxLen:=by rw[hF.size];have:=F.aa0;unfold maxLen;omega
 go_in
 go_wp2_with (first|(at_lookup;refine By _ rfl _ _ 97 rfl 25 3 .i64 xY underlying97 underlying3 (yp _) bf _ D rfl hD _ _ rfl jr ?_;intro c jC zv)|(at_mapUpdate;refine Es _ rfl _ _ _ 97 rfl 25 3 xY underlying97 _ bf _ _ rfl hD aW _ _ _ rfl rfl jr _ [] (plainElem_int underlying3 (Dd (by omega))) ?_;intro w1 akb ajB))
 ·have mF:has D (.int .i64 e)=false:=by have:(!has D (.int .i64 e))=true:=by assumption
                                        simpa using this
  rw[hF.has]at mF;have hF':=hF.put (hD.tidy xY) e p he mF;go_end0;refine⟨rfl,⟨D.put (.int .i64 e) (.lit (.int .i64 p)),?_,?_⟩,(aa.refl _ _).eP (by assumption) (fun k hk=>Or.inl (by cases hk;rfl))⟩
  ·have e1:Maps.size (D.put (.int .i64 e) (.lit (.int .i64 p)))=Maps.size D+1:=(by rw[hF'.size,hF.size,cV.UR _ _ _ he mF]);rw[e1];assumption
  ·have hn:F.eN e p=F.put e p:=(by simp[cV.eN,mF]);rw[hn];exact hF'
 ·have NK:has D (.int .i64 e)=true:=by have:(!has D (.int .i64 e))=false:=by assumption
                                       simpa using this
  rw[hF.has]at NK;go_end0;refine⟨rfl,⟨D,hD,?_⟩,aa.refl _ _⟩;have hn:F.eN e p=F:=by simp[cV.eN,NK]
  rw[hn];exact hF
structure Nr(w w0:World)(s:ByteArray)(vr vp:Value)(rs ps:List Int)(F:cV)(pos:Nat):Prop where
 iter:w.heap[w0.heap.size+1+1+1]? =some (.stringIter s pos)
 aq:au w (w0.heap.size+1+1) #[vr,vp,.int .i64 0,.map (some w0.heap.size),.bool false,.int .i64 0,.map (some (w0.heap.size+1))] 99
 gS:w.ownsRow (w0.heap.size+4) 21 1 vr rs.length (rs.map (Value.int .i32))
 places:w.ownsRow (w0.heap.size+4) 3 1 vp ps.length (ps.map (Value.int .i64))
 fm:∃D,w.ownsMap prog 25 (plainElem (H:=Unit) prog 3) w0.heap.size (Maps.size D) D/\wY D F
 nm:w.ownsMap prog 9 (plainElem (H:=Unit) prog 3) (w0.heap.size+1) 0 (.map [])
 kept:aa ai w0 w
 size:w0.heap.size+4<=w.heap.size
theorem aif:wY (.map []) Mx:=⟨isMap_empty,fun e=>by simp[Maps.has,cV.get,Mx],fun e p h=>by simp[cV.get,Mx]at h,rfl⟩
theorem abn:I8 (.map []) []:=⟨isMap_empty,fun e=>by simp[Maps.has],fun e p h=>by simp at h,rfl⟩
theorem al4(w:World)(s:ByteArray):Nr ((((w.alloc (.map #[] 0)).alloc (.map #[] 0)).alloc (.cells #[.slice none 0 0,.slice none 0 0,.int .i64 0,.map (some w.heap.size),.bool false,.int .i64 0,.map (some (w.heap.size+1))] 99)).iter s 0) w s (.slice none 0 0) (.slice none 0 0) [] [] Mx 0 where
 iter:=by
  have:=World.iter_heap (((w.alloc (.map #[] 0)).alloc (.map #[] 0)).alloc (.cells #[.slice none 0 0,.slice none 0 0,.int .i64 0,.map (some w.heap.size),.bool false,.int .i64 0,.map (some (w.heap.size+1))] 99)) s 0;rw[fP,fP,fP]at this;exact this
 aq:=by
  have:=(au.new ((w.alloc (.map #[] 0)).alloc (.map #[] 0)) #[.slice none 0 0,.slice none 0 0,.int .i64 0,.map (some w.heap.size),.bool false,.int .i64 0,.map (some (w.heap.size+1))] 99).alloc (.stringIter s 0);rw[fP,fP]at this;exact this
 gS:=A8 _ _ _ _
 places:=A8 _ _ _ _
 fm:=⟨.map [],(((Ei w prog 25 _).alloc _).alloc _).alloc _,aif⟩
 nm:=by
  have:=((Ei (w.alloc (.map #[] 0)) prog 9 (plainElem (H:=Unit) prog 3)).alloc (.cells #[.slice none 0 0,.slice none 0 0,.int .i64 0,.map (some w.heap.size),.bool false,.int .i64 0,.map (some (w.heap.size+1))] 99)).alloc (.stringIter s 0);rw[fP]at this;exact this
 kept:=((((aa.refl _ _).alloc _).alloc _).alloc _).alloc _
 size:=by simp[World.iter]
theorem Nr.ak0(h:Nr w w0 s vr vp rs ps F pos)(k:aa ai w w'):Nr w' w0 s vr vp rs ps F pos where
 iter:=(k.block _ (by have:=h.size;omega) (fun hx=>hx)).trans h.iter
 aq:=h.aq.kept k (fun hx=>hx)
 gS:=bU h.gS k (fun _ _ hx=>hx)
 places:=bU h.places k (fun _ _ hx=>hx)
 fm:=by obtain⟨D,hD,hF⟩:=h.fm;exact⟨D,jQ hD k (fun hx=>hx),hF⟩
 nm:=jQ h.nm k (fun hx=>hx)
 kept:=h.kept.trans k
 size:=Bh h.size k.size
theorem aa.iterAt{S:Nat->Prop}{a:World}(h:aa S a w){k:Nat}(hk:S k\/a.heap.size<=k)(s:ByteArray)(pos:Nat):aa S a (w.iterAt k s pos):=
 ⟨h.os,h.tape,h.output,by rw[Fw];exact h.size,fun i hi hn=>(Lib.iterAt_other w k i s pos (by
   intro e;subst e;rcases hk with hk|hk
   ·exact hn hk
   ·omega)).trans (h.block i hi hn)⟩
theorem Nr.DN(h:Nr w w0 s vr vp rs ps F pos)(pos':Nat):Nr (w.iterAt (w0.heap.size+1+1+1) s pos') w0 s vr vp rs ps F pos':=by
 have k:aa (fun i=>i=w0.heap.size+1+1+1) w (w.iterAt (w0.heap.size+1+1+1) s pos'):=(aa.refl (fun i=>i=w0.heap.size+1+1+1) w).iterAt (k:=w0.heap.size+1+1+1) (Or.inl rfl) s pos'
 exact{
  iter:=Lib.iterAt_heap w _ s pos pos' h.iter
  aq:=h.aq.kept k (by omega)
  gS:=bU h.gS k (fun b hb hx=>by have:=dw h.gS hb;omega)
  places:=bU h.places k (fun b hb hx=>by have:=dw h.places hb;omega)
  fm:=by obtain⟨D,hD,hF⟩:=h.fm;exact⟨D,jQ hD k (by omega),hF⟩
  nm:=jQ h.nm k (by omega)
  kept:=h.kept.b_ k (fun i hi he=>by omega)
  size:=by rw[Fw];exact h.size}
theorem Nr.XQ{F':cV}(h:Nr w w0 s vr vp rs ps F pos)(k:aa (fun i=>i=w0.heap.size) w w')
 (hf:∃D,w'.ownsMap prog 25 (plainElem (H:=Unit) prog 3) w0.heap.size (Maps.size D) D/\wY D F'):Nr w' w0 s vr vp rs ps F' pos where
 iter:=(k.block _ (by have:=h.size;omega) (by omega)).trans h.iter
 aq:=h.aq.kept k (by omega)
 gS:=bU h.gS k (fun b hb hx=>by have:=dw h.gS hb;omega)
 places:=bU h.places k (fun b hb hx=>by have:=dw h.places hb;omega)
 fm:=hf
 nm:=jQ h.nm k (by omega)
 kept:=h.kept.b_ k (fun i hi he=>by omega)
 size:=Bh h.size k.size
theorem ad5{base n n':Nat}{v:Value}{xs xs':List Value}{e e':TypeId}(he:e≠e')(h:w.ownsRow base e 1 v n xs)(h':w.ownsRow base e' 1 v' n' xs')(hb:v.ownBlock=some b)(kZ:v'.ownBlock=some b):False:=by
 rcases h.2 with⟨rfl,_⟩|⟨g,cap,aO,rfl,a1,a2,r⟩
 ·simp[Value.ownBlock]at hb
 ·rcases h'.2 with⟨rfl,_⟩|⟨g',Mf,cur',rfl,a1',a2',r'⟩
  ·simp[Value.ownBlock]at kZ
  ·simp[Value.ownBlock]at hb kZ
   subst hb kZ;rw[a2]at a2';simp at a2';exact he a2'.2
theorem Nr.anI(h:Nr w w0 s vr vp rs ps F pos)
 (bC:w4.ownsRow (w0.heap.size+4) 21 1 v' (rs.length+1) (rs.map (Value.int .i32)++[.int .i32 c]))(hg:(w.alloc o).grownBy w4 vr.ownBlock):
 Nr (w4.setCell ⟨w0.heap.size+1+1,0,none⟩ v') w0 s v' vp (rs++[c]) ps F pos:=by
 have k1:aa (fun i=>vr.ownBlock=some i) w w4:=((aa.refl _ _).alloc o).eP hg (fun j hj=>Or.inl hj);have gW:∀i,vr.ownBlock=some i->w0.heap.size+4<=i:=fun i hi=>(dw h.gS hi).1
 have k2:aa (fun i=>i=w0.heap.size+1+1) w4 (w4.setCell ⟨w0.heap.size+1+1,0,none⟩ v'):=(aa.refl (fun i=>i=w0.heap.size+1+1) w4).setCell (p:=⟨w0.heap.size+1+1,0,none⟩) (Or.inl rfl) v';have s1:=k1.size;have sz:=h.size
 exact{
  iter:=(k2.block _ (by omega) (by omega)).trans ((k1.block _ (by omega) (fun hx=>by have:=gW _ hx;omega)).trans h.iter)
  aq:=(h.aq.kept k1 (fun hx=>by have:=gW _ hx;omega)).setCell 0 v'
  gS:=by
   have:=bU bC k2 (fun b hb hx=>by have:=dw bC hb;omega);simpa using this
  places:=bU (bU h.places k1 (fun b hb hx=>ad5 (by decide) h.gS h.places hx hb)) k2 (fun b hb hx=>by have:=dw h.places hb;omega)
  fm:=by obtain⟨D,hD,hF⟩:=h.fm;exact⟨D,jQ (jQ hD k1 (fun hx=>by have:=gW _ hx;omega)) k2 (by omega),hF⟩
  nm:=jQ (jQ h.nm k1 (fun hx=>by have:=gW _ hx;omega)) k2 (by omega)
  kept:=(h.kept.b_ k1 (fun i hi he=>by have:=gW _ he;omega)).b_ k2 (fun i hi he=>by omega)
  size:=by have:=k2.size;omega}
theorem Nr.aeL(h:Nr w w0 s vr vp rs ps F pos)
 (bC:w4.ownsRow (w0.heap.size+4) 3 1 v' (ps.length+1) (ps.map (Value.int .i64)++[.int .i64 c]))(hg:(w.alloc o).grownBy w4 vp.ownBlock):
 Nr (w4.setCell ⟨w0.heap.size+1+1,1,none⟩ v') w0 s vr v' rs (ps++[c]) F pos:=by
 have k1:aa (fun i=>vp.ownBlock=some i) w w4:=((aa.refl _ _).alloc o).eP hg (fun j hj=>Or.inl hj);have gW:∀i,vp.ownBlock=some i->w0.heap.size+4<=i:=fun i hi=>(dw h.places hi).1
 have k2:aa (fun i=>i=w0.heap.size+1+1) w4 (w4.setCell ⟨w0.heap.size+1+1,1,none⟩ v'):=(aa.refl (fun i=>i=w0.heap.size+1+1) w4).setCell (p:=⟨w0.heap.size+1+1,1,none⟩) (Or.inl rfl) v';have s1:=k1.size;have sz:=h.size
 exact{
  iter:=(k2.block _ (by omega) (by omega)).trans ((k1.block _ (by omega) (fun hx=>by have:=gW _ hx;omega)).trans h.iter)
  aq:=(h.aq.kept k1 (fun hx=>by have:=gW _ hx;omega)).setCell 1 v'
  gS:=bU (bU h.gS k1 (fun b hb hx=>ad5 (by decide) h.gS h.places hb hx)) k2 (fun b hb hx=>by have:=dw h.gS hb;omega)
  places:=by
   have:=bU bC k2 (fun b hb hx=>by have:=dw bC hb;omega);simpa using this
  fm:=by obtain⟨D,hD,hF⟩:=h.fm;exact⟨D,jQ (jQ hD k1 (fun hx=>by have:=gW _ hx;omega)) k2 (by omega),hF⟩
  nm:=jQ (jQ h.nm k1 (fun hx=>by have:=gW _ hx;omega)) k2 (by omega)
  kept:=(h.kept.b_ k1 (fun i hi he=>by have:=gW _ he;omega)).b_ k2 (fun i hi he=>by omega)
  size:=by have:=k2.size;omega}
theorem Tryz.Xi:(prog.info? 3).map (fun i=>(i.zero,i.size,i.bytes))=some (some (.int .i64 0),1,8):=by kernel_rfl
theorem Tryz.Xj:(prog.info? 21).map (fun i=>(i.zero,i.size,i.bytes))=some (some (.int .i32 0),1,4):=by kernel_rfl
theorem Nr.done(h:Nr w w0 s vr vp rs ps F pos)(hl:ps.length=rs.length+1)(hn:rs.length<=300)(hp:∀p∈ps,0<=p/\p<=300)(hrr:∀r∈rs,0<=r/\r<=1114111):
 ∃g:RG,g.b=w0.heap.size+1+1/\g.rs=rs/\g.ps=ps/\aV w g false {next:=0,bA:=F,aT:=0,names:=[]}/\(∀i,g.use i->w0.heap.size<=i):=by
 obtain⟨D,hD,hF⟩:=h.fm;have sz:=h.size
 have cells:∀{e:TypeId} {k:IntKind} {g cap:Nat} {aO:Array Value} {zs:List Int},w.heap[g]? =some (.cells aO e (0,0))->aO.toList.take (zs.length*1)=zs.map (Value.int k)->∀i,i<zs.length->w.cell? ⟨g,i,none⟩=some (.int k (zs.getD i 0)):=by
  intro e k g cap aO zs hc ht i hi;have h1:(zs.map (Value.int k))[i]? =some (.int k (zs.getD i 0)):=by simp[List.getD,Ae hi]
  rw[<-ht,Av (by omega)]at h1;simp only[World.cell?,hc];simpa using h1
 have pr:∀i,0<=ps.getD i 0/\ps.getD i 0<=300:=by
  intro i;by_cases hi:i<ps.length
  ·have:ps.getD i 0=ps[i]:=(by simp[List.getD,Ae hi]);rw[this];exact hp _ (A6 hi)
  ·have:ps.getD i 0=0:=(by simp[List.getD,Cg (by omega:ps.length<=i)]);rw[this];omega
 rcases h.places.2 with⟨rfl,h0⟩|⟨gp,Qt,aqj,rfl,p1,p2,p3,p4,p5,p6⟩
 ·omega
 have Vp:=(Am.1 p2).1;rcases h.gS.2 with⟨rfl,h0⟩|⟨gr,nM,curr,rfl,r1,r2,r3,r4,r5,r6⟩
 ·have e:rs=[]:=Aw.1 h0;subst e;refine⟨{b:=w0.heap.size+1+1,ao:=none,br:=gp,cr:=0,bp:=gp,cp:=Qt,bf:=w0.heap.size,bn:=w0.heap.size+1,rs:=[],ps:=ps},rfl,rfl,rfl,?_,?_⟩
  ·exact{
    aq:=by have:=h.aq;rw[hl]at this;exact this
    isSome:=fun hx=>by simp at hx
    gS:=fun i hi=>by simp at hi
    places:=fun i hi=>cells (cap:=Qt) p2 p6 i (by rw[hl];exact hi)
    ow:=Vp
    ou:=Vp
    ni:=pr
    rC:=hrr
    fm:=⟨D,hD,hF⟩
    nm:=⟨.map [],h.nm,abn⟩
    len:=by simp
    nM:=by simp
    next:=by simp
    aT:=by simp
    names:=by simp
    apart:=by refine⟨?_,?_,?_,?_,?_,?_,?_,?_,?_⟩<;>simp only<;>omega}
  ·intro i hi;rcases hi with rfl|rfl|rfl|rfl|rfl<;>(try simp only)<;>omega
 ·have ai7:=(Am.1 r2).1;refine⟨{b:=w0.heap.size+1+1,ao:=some ⟨gr,0,none⟩,br:=gr,cr:=nM,bp:=gp,cp:=Qt,bf:=w0.heap.size,bn:=w0.heap.size+1,rs:=rs,ps:=ps},rfl,rfl,rfl,?_,?_⟩
  ·exact{
    aq:=by have:=h.aq;rw[hl]at this;exact this
    isSome:=fun _=>rfl
    gS:=fun i hi=>cells (cap:=nM) r2 r6 i hi
    places:=fun i hi=>cells (cap:=Qt) p2 p6 i (by rw[hl];exact hi)
    ow:=ai7
    ou:=Vp
    ni:=pr
    rC:=hrr
    fm:=⟨D,hD,hF⟩
    nm:=⟨.map [],h.nm,abn⟩
    len:=hn
    nM:=r3
    next:=by simp
    aT:=by simp
    names:=by simp
    apart:=by refine⟨?_,?_,?_,?_,?_,?_,?_,?_,?_⟩<;>simp only<;>omega}
  ·intro i hi;rcases hi with rfl|rfl|rfl|rfl|rfl<;>(try simp only)<;>omega
theorem al3(s:ByteArray)(w:World)(hs:s.size<=300):
 Calls prog 37 #[.string s] w fun e w'=>∃g:RG,e=.returned (BT g.b 0)/\g.rs=(gT s (s.size+1) 0).map (·.2)/\g.ps=(gT s (s.size+1) 0).map (fun p=>(p.1:Int))++[(s.size:Int)]/\
  aV w' g false {next:=0,bA:=s_ s (gT s (s.size+1) 0),aT:=0,names:=[]}/\(∀i,g.use i->w.heap.size<=i)/\aa ai w w':=by
 have zo:=@run_makeMap prog;obtain⟨ii,CM,hiz,his,dW⟩:=Bo Tryz.Xi;obtain⟨ir,Wk,hrz,kH,zu⟩:=Bo Tryz.Xj;have bD:=al4 w s;go_in;go_wp2_with fail;go_loopg [4] s.size (fun kk _ wr=>∃(pos m:Nat) (l:List (Nat×Int)) (rs ps:List Int) (vr vp:Value),Nr wr w s vr vp rs ps (s_ s l) pos/\Hid (rs=l.map (·.2)/\ps=l.map fun p=>(p.1:Int))/\rs.length<=pos/\ps.length<=pos/\Hid (l++gT s m pos=gT s (s.size+1) 0)/\kk=s.size-pos/\kk<m/\rs.length<=s.size/\ps.length<=s.size/\Hid (∀p∈l,p.1<=300))
 case atStart=>exact⟨0,s.size+1,[],[],[],_,_,bD,⟨rfl,rfl⟩,by simp,by simp,rfl,rfl,by omega,by simp,by simp,fun p hp=>by simp at hp⟩
 case round=>
  obtain⟨pos,m,l,rs,ps,vr,vp,hN,EV,RF,oH,HL,rfl,hm,hr5,Hv,HS⟩:=hrel;clear bD;by_cases az:pos<s.size
  ·have hn:=(fun ty=>Lib.run_next_any_at (P:=prog) wr (w.heap.size+1+1+1) s pos ty hN.iter az);have hdp:=ah_ s pos az;have QV:=hN.DN (pos+(Utf8.decode s pos).2);obtain⟨w1,oM⟩:∃w1,w1=wr.iterAt (w.heap.size+1+1+1) s (pos+(Utf8.decode s pos).2):=⟨_,rfl⟩
   rw[<-oM]at QV;have si:∀ty,(Instr.next (.pointer (some ⟨w.heap.size+1+1+1,0,none⟩)) true ty).run prog wr=.ok (.tuple #[.bool true,.int .i64 pos,.int .i32 (Utf8.decode s pos).1]) w1:=by rw[oM];exact hn
   clear hn oM
   have HC:Hid ((pos,((Utf8.decode s pos).1:Int))::gT s (m-1) (pos+(Utf8.decode s pos).2)=gT s m pos):=by
    show _=_
    obtain⟨m',rfl⟩:∃m',m=m'+1:=⟨m-1,by omega⟩
    rw[show gT s (m'+1) pos=if pos<s.size then(pos,((Utf8.decode s pos).1:Int))::gT s m' (pos+(Utf8.decode s pos).2)else []from rfl,if_pos az];rfl
   generalize V9:((Utf8.decode s pos).1:Int)=c at si HC
   generalize qm:(Utf8.decode s pos).2=wd at hdp QV HC
   clear V9 qm
   cases hc:(c==65533)
   case' false=>
    have EF:Hid (s_ s (l++[(pos,c)])=s_ s l):=by show _=_;rw[U9];simp[NR,hc]
    have BZ:=QV;rename World=>wz
   case' true=>
    go_wp2_with fail
    refine(aji _ _ _).mono ?_;rintro e w2 ⟨rfl,aS⟩;have xD:=QV.ak0 aS;have dW:NR s (pos,c)= !(Lib.hasPrefix (s.extract pos s.size).data.toList [239,191,189]):=by simp[NR,hc]
    cases NA:Lib.hasPrefix (s.extract pos s.size).data.toList [239,191,189]
    case' true=>
     have EF:Hid (s_ s (l++[(pos,c)])=s_ s l):=by show _=_;rw[U9,dW,NA];simp
     clear NA dW;have BZ:=xD;rename World=>wz
    case' false=>
     have EF:Hid (s_ s (l++[(pos,c)])=(s_ s l).eN 2 pos):=by show _=_;rw[U9,dW,NA];simp
     clear NA dW;go_wp2_with fail;obtain⟨D,hD,hF⟩:=xD.fm;refine(amc (b:=w.heap.size+1+1) (xD.aq.cell 3) hD hF 2 pos (by omega) (by omega)).mono ?_;rintro e w3 ⟨rfl,hf3,bm⟩;have hN3:=xD.XQ bm hf3;have BZ:=hN3;rename World=>wz
   all_goals
    have c0:wz.cell? ⟨w.heap.size+1+1,0,none⟩=some vr:=BZ.aq.cell 0;go_wp2_with (at_builtin;refine Ao _ rfl _ _ 96 rfl (w.heap.size+4) 21 ir _ 1 4 underlying96 Wk hrz kH zu rfl (by decide) _ _ _ rfl (BZ.gS.alloc _) ⟨wz.heap.size,0,none⟩ 1 1 [.int .i32 c] rfl rfl (by exact cell_one_new _ _ _) (by intro u hu;simp at hu;subst hu;rfl) (by unfold maxLen;omega) (by omega) (by have:=BZ.size;simp;omega) ?_);intro v' w4 bL cy eF cI;have rU:=BZ.anI bL cy;have b4:=(BZ.aq.kept (((aa.refl (fun i=>vr.ownBlock=some i) wz).alloc _).eP cy (fun j hj=>Or.inl hj)) (fun hx=>by have:=(dw BZ.gS hx).1;omega));obtain⟨jm,cc4,H_⟩:=cw bL;rw[H_]at rU⊢;clear bL cy eF cI H_ c0;have c40:w4.cell? ⟨w.heap.size+1+1,0,none⟩=some vr:=b4.cell 0;have f40:=b4.frozen 0;have c41:(w4.setCell ⟨w.heap.size+1+1,0,none⟩ (.slice jm (rs.length+1) cc4)).cell? ⟨w.heap.size+1+1,1,none⟩=some vp:=rU.aq.cell 1;go_wp2_with (at_builtin;refine Ao _ rfl _ _ 22 rfl (w.heap.size+4) 3 ii _ 1 8 underlying22 CM hiz his dW rfl (by decide) _ _ _ rfl (rU.places.alloc _) ⟨w4.heap.size,0,none⟩ 1 1 [.int .i64 (pos:Int)] rfl rfl ?c1 ?c2 ?c3 ?c4 ?c5 ?_)
    case c1=>
     have:=cell_one_new (w4.setCell ⟨w.heap.size+1+1,0,none⟩ (.slice jm (rs.length+1) cc4)) (.int .i64 (pos:Int)) 3;simpa[World.setCell]using this
    case c2=>intro u hu;simp at hu;subst hu;rfl
    case c3=>unfold maxLen;omega
    case c4=>omega
    case c5=>have:=rU.size;simp[World.setCell]at this⊢;omega
    intro v5 w5 tp Hf WD Ww;have Jz:=rU.aeL tp Hf;have b5:=(rU.aq.kept (((aa.refl (fun i=>vp.ownBlock=some i) _).alloc _).eP Hf (fun j hj=>Or.inl hj)) (fun hx=>by have:=(dw rU.places hx).1;omega));obtain⟨UD,cc5,ib⟩:=cw tp;rw[ib]at Jz⊢;clear tp Hf WD Ww ib c40 f40 c41 b4 rU;have c51:w5.cell? ⟨w.heap.size+1+1,1,none⟩=some vp:=b5.cell 1;have f51:=b5.frozen 1;go_wp2_with fail;go_roundg (s.size-(pos+wd))
    case measure=>omega
    case rel=>
     refine⟨pos+wd,m-1,l++[(pos,c)],rs++[c],ps++[(pos:Int)],_,_,EF.o.symm▸Jz,⟨by rw[EV.o.1];simp,by rw[EV.o.2];simp⟩,by simp;omega,by simp;omega,?_,rfl,by omega,by simp;omega,by simp;omega,?_⟩
     ·show _=_
      rw[<-HL.o,<-HC.o];simp
     ·intro p hp;rcases Ap.1 hp with hp|hp
      ·exact HS.o p hp
      ·simp at hp;subst hp;simp only;omega
  ·have hn:=(fun ty=>Lib.run_next_end_at (P:=prog) wr (w.heap.size+1+1+1) s pos ty hN.iter az);have c1:wr.cell? ⟨w.heap.size+1+1,1,none⟩=some vp:=hN.aq.cell 1
   have IY:Hid (l=gT s (s.size+1) 0):=by
    show _=_
    have:=HL.o;rw[aot s m pos az,D3]at this;exact this
   go_wp2_with (at_builtin;refine Ao _ rfl _ _ 22 rfl (w.heap.size+4) 3 ii _ 1 8 underlying22 CM hiz his dW rfl (by decide) _ _ _ rfl (hN.places.alloc _) ⟨wr.heap.size,0,none⟩ 1 1 [.int .i64 (s.size:Int)] rfl rfl ?c1 ?c2 ?c3 ?c4 ?c5 ?_)
   case c1=>exact cell_one_new _ _ _
   case c2=>intro u hu;simp at hu;subst hu;rfl
   case c3=>unfold maxLen;omega
   case c4=>omega
   case c5=>have:=hN.size;simp;omega
   intro v5 w5 tp Hf WD Ww;have Jz:=hN.aeL tp Hf;have b5:=(hN.aq.kept (((aa.refl (fun i=>vp.ownBlock=some i) _).alloc _).eP Hf (fun j hj=>Or.inl hj)) (fun hx=>by have:=(dw hN.places hx).1;omega));obtain⟨UD,cc5,ib⟩:=cw tp;rw[ib]at Jz⊢;clear tp Hf WD Ww ib c1 hn;have c51:w5.cell? ⟨w.heap.size+1+1,1,none⟩=some vp:=b5.cell 1;have f51:=b5.frozen 1;go_wp2_with fail;have dc:ps.length=rs.length:=by have:=EV.o;rw[this.1,this.2];simp
   obtain⟨g,gb,grs,gps,wt,xR⟩:=Jz.done (by simp;omega) (by omega) (fun p hp=>by
    rcases Ap.1 hp with hp|hp
    ·rw[EV.o.2]at hp;obtain⟨x,hx,rfl⟩:=Be.1 hp;have:=HS.o x hx;omega
    ·simp at hp;subst hp;omega) (fun r hr=>by
     rw[EV.o.1,IY.o]at hr;obtain⟨x,hx,rfl⟩:=Be.1 hr;exact Ys s _ _ x hx)
   go_ret
   refine⟨g,by rw[gb];rfl,?_,?_,?_,xR,Jz.kept⟩
   ·rw[grs,EV.o.1,<-IY.o]
   ·rw[gps,EV.o.2,<-IY.o]
   ·rw[<-IY.o];exact wt
theorem ah9(n b0 b1 b2 b3:Nat)(hn:1<=n):1<=(Lib.decodeN n b0 b1 b2 b3).2/\(Lib.decodeN n b0 b1 b2 b3).2<=n/\(Lib.decodeN n b0 b1 b2 b3).2<=4/\
 (1<(Lib.decodeN n b0 b1 b2 b3).2->b0/64≠2/\128<=b0/\b1/64=2/\(2<(Lib.decodeN n b0 b1 b2 b3).2->b2/64=2)/\(3<(Lib.decodeN n b0 b1 b2 b3).2->b3/64=2))/\
 (b0<128->Lib.decodeN n b0 b1 b2 b3=(b0,1))/\(128<=b0->(Lib.decodeN n b0 b1 b2 b3).2=1->(Lib.decodeN n b0 b1 b2 b3).1=65533):=by
 unfold Lib.decodeN;by_cases h0:b0<128
 ·rw[if_pos h0];exact⟨by simp,by simp;omega,by simp,fun h=>by simp at h,fun _=>rfl,fun h=>by omega⟩
 ·rw[if_neg h0];repeat' split
  all_goals(refine⟨by simp,by simp;omega,by simp,fun h=>?_,fun h=>absurd h h0,fun _ h=>?_⟩<;>first|(simp at h;done)|rfl|(simp only[]at h⊢;omega))
theorem ah8(n m b0 b1 b2 b3 c1 c2 c3:Nat)(hm:1<=m)(dP:m<=n)(h1:1<m->c1=b1)(h2:2<m->c2=b2)(h3:3<m->c3=b3)(hw:(Lib.decodeN n b0 b1 b2 b3).2<=m):Lib.decodeN m b0 c1 c2 c3=Lib.decodeN n b0 b1 b2 b3:=by
 unfold Lib.decodeN at*;by_cases h0:b0<128
 ·rw[if_pos h0,if_pos h0]
 ·rw[if_neg h0]at hw⊢;rw[if_neg h0];by_cases k1:1<m
  ·have e1:=h1 k1;subst e1;by_cases k2:2<m
   ·have e2:=h2 k2;subst e2;by_cases k3:3<m
    ·have e3:=h3 k3;subst e3;have a1:1<n:=(by omega);have a2:2<n:=(by omega);have a3:3<n:=(by omega);simp only[k1,k2,k3,a1,a2,a3,true_and]
    ·have a1:1<n:=(by omega);have a2:2<n:=(by omega);simp only[k1,k2,k3,a1,a2,true_and,false_and,and_false,if_false]at hw⊢;repeat' split
     all_goals first|rfl|(exfalso;simp_all;done)|(exfalso;simp_all;omega)
   ·have a1:1<n:=(by omega);simp only[k1,k2,a1,show¬3<m by omega,true_and,false_and,and_false,if_false]at hw⊢;repeat' split
    all_goals first|rfl|(exfalso;simp_all;done)|(exfalso;simp_all;omega)
  ·simp only[k1,show¬2<m by omega,show¬3<m by omega,false_and,and_false,if_false]at hw⊢;repeat' split
   all_goals first|rfl|(exfalso;simp_all;done)|(exfalso;simp_all;omega)
theorem Gq(s:ByteArray)(p:Nat)(h:p<s.size):1<=(Utf8.decode s p).2/\p+(Utf8.decode s p).2<=s.size/\(Utf8.decode s p).2<=4/\
 (1<(Utf8.decode s p).2->(s.get! p).toNat/64≠2/\128<=(s.get! p).toNat/\∀k,1<=k->k<(Utf8.decode s p).2->(s.get! (p+k)).toNat/64=2)/\
 ((s.get! p).toNat<128->Utf8.decode s p=((s.get! p).toNat,1))/\(128<=(s.get! p).toNat->(Utf8.decode s p).2=1->(Utf8.decode s p).1=65533):=by
 rw[Lib.decode_at];obtain⟨a1,a2,a3,a4,a5,a6⟩:=ah9 (s.size-p) (s.get! p).toNat (s.get! (p+1)).toNat (s.get! (p+2)).toNat (s.get! (p+3)).toNat (by omega);refine⟨a1,by omega,a3,fun h1=>?_,a5,a6⟩;obtain⟨b1,b2,b3,b4,b5⟩:=a4 h1;refine⟨b1,b2,fun k k1 k2=>?_⟩;have:k=1\/k=2\/k=3:=by omega
 rcases this with rfl|rfl|rfl
 ·exact b3
 ·exact b4 k2
 ·exact b5 k2
theorem vN(s:ByteArray)(a b k:Nat)(hb:b<=s.size)(hk:a+k<b):(s.extract a b).get! k=s.get! (a+k):=by
 rw[<-Lib.getD_get!,<-Lib.getD_get!,C0];simp only[Af];congr 1;rw[Av (by omega),Dq]
theorem extract_size(s:ByteArray)(a b:Nat)(hb:b<=s.size):(s.extract a b).size=b-a:=by
 rw[E0,C0,Cv,List.length_drop,<-E0];omega
theorem Gp(s:ByteArray)(a b p:Nat)(hb:b<=s.size)(hp:a+p<b)(hw:a+p+(Utf8.decode s (a+p)).2<=b):Utf8.decode (s.extract a b) p=Utf8.decode s (a+p):=by
 rw[Lib.decode_at]at hw⊢;rw[Lib.decode_at,extract_size s a b hb,vN s a b p hb hp];refine ah8 _ _ _ _ _ _ _ _ _ (by omega) (by omega) (fun h=>?_) (fun h=>?_) (fun h=>?_) (by omega)
 ·rw[vN s a b (p+1) hb (by omega)];rfl
 ·rw[vN s a b (p+2) hb (by omega)];rfl
 ·rw[vN s a b (p+3) hb (by omega)];rfl
theorem UV(s:ByteArray)(p:Nat)(h:p<s.size):Lib.decodeGo (s.extract p s.size)=Utf8.decode s p:=by
 have hs:=extract_size s p s.size (Ab _);have hw:=Gq s p h;unfold Lib.decodeGo;rw[if_neg (by omega),Gp s p s.size 0 (Ab _) (by omega) (by rw[Dr];omega),Dr]
structure Y_(s:ByteArray)(a:Nat)(l:List (Nat×Int)):Prop where
 first:∀h:0<l.length,l[0].1=a
 none:l.length=0->a=s.size
 lt:∀i,(h:i<l.length)->l[i].1<s.size
 bF:∀i,(h:i<l.length)->l[i].2=((Utf8.decode s l[i].1).1:Int)
 next:∀i,(h:i+1<l.length)->l[i+1].1=l[i].1+(Utf8.decode s l[i].1).2
 eQ:∀i,(h:i+1=l.length)->s.size=l[i].1+(Utf8.decode s l[i].1).2
theorem ae7(s:ByteArray):∀(m pos:Nat),s.size-pos<=m->pos<=s.size->Y_ s pos (gT s m pos)
 |0,pos,h,hp=>⟨fun h=>by simp[gT]at h,fun _=>by omega,fun i h=>by simp[gT]at h,fun i h=>by simp[gT]at h,fun i h=>by simp[gT]at h,fun i h=>by simp[gT]at h⟩
 |m+1,pos,h,hp=>by
  unfold gT;by_cases az:pos<s.size
  ·rw[if_pos az];have hw:=Gq s pos az;have ih:=ae7 s m (pos+(Utf8.decode s pos).2) (by omega) (by omega);refine⟨fun _=>rfl,fun h=>by simp at h,fun i hi=>?_,fun i hi=>?_,fun i hi=>?_,fun i hi=>?_⟩
   ·cases i with
    |zero=>exact az
    |succ i=>exact ih.lt i (by simpa using hi)
   ·cases i with
    |zero=>rfl
    |succ i=>exact ih.bF i (by simpa using hi)
   ·cases i with
    |zero=>exact ih.first (by simpa using hi)
    |succ i=>exact ih.next i (by simpa using hi)
   ·cases i with
    |zero=>exact(ih.none (by simpa using hi.symm)).symm
    |succ i=>exact ih.eQ i (by simpa using hi)
  ·rw[if_neg az];exact⟨fun h=>by simp at h,fun _=>by omega,fun i h=>by simp at h,fun i h=>by simp at h,fun i h=>by simp at h,fun i h=>by simp at h⟩
def aJ(s:ByteArray):List (Nat×Int):=gT s s.size 0
def iA(s:ByteArray):TX:=⟨aJ s,s.size⟩
def bd(s:ByteArray)(i:Nat):Nat:=((aJ s)[i]?.map (·.1)).getD s.size
theorem IE(s:ByteArray):Y_ s 0 (aJ s):=ae7 s s.size 0 (by omega) (Al _)
theorem AW(h:i<(aJ s).length):bd s i=(aJ s)[i].1:=by unfold bd;rw[Ae h];rfl
theorem nI(h:(aJ s).length<=i):bd s i=s.size:=by unfold bd;rw[Cg h];rfl
theorem sS(s:ByteArray):bd s 0=0:=by
 by_cases h:0<(aJ s).length
 ·rw[AW h];exact(IE s).first h
 ·rw[nI (by omega)];exact((IE s).none (by omega)).symm
theorem xu(h:i<(aJ s).length):bd s i<s.size:=by rw[AW h];exact(IE s).lt i h
theorem i_(s:ByteArray)(i:Nat):bd s i<=s.size:=by
 by_cases h:i<(aJ s).length
 ·exact Nat.le_of_lt (xu h)
 ·rw[nI (by omega)];exact Ab _
theorem uc(h:i<(aJ s).length):bd s (i+1)=bd s i+(Utf8.decode s (bd s i)).2:=by
 rw[AW h];by_cases h2:i+1<(aJ s).length
 ·rw[AW h2];exact(IE s).next i h2
 ·rw[nI (by omega)];exact(IE s).eQ i (by omega)
theorem pY(h:i<(aJ s).length):bd s i<bd s (i+1)/\bd s (i+1)<=bd s i+4:=by
 have:=Gq s _ (xu h);rw[uc h];omega
theorem fZ(s:ByteArray)(h:i<=j):bd s i<=bd s j:=by
 induction j with
 |zero=>have:i=0:=by omega
        subst this;exact Ab _
 |succ j ih=>
  by_cases e:i=j+1
  ·subst e;exact Ab _
  ·have h1:=ih (by omega);by_cases hj:j<(aJ s).length
   ·have:=pY hj;omega
   ·rw[nI (i:=j+1) (by omega)];exact i_ s i
theorem AX(h:i<j)(hj:i<(aJ s).length):bd s i<bd s j:=by
 have h1:=pY hj;have h2:=fZ s (show i+1<=j by omega);omega
theorem Qm(hi:i<=(aJ s).length)(hj:j<=(aJ s).length)(h:bd s i=bd s j):i=j:=by
 by_cases h1:i<j
 ·have:=AX (s:=s) h1 (by omega);omega
 ·by_cases h2:j<i
  ·have:=AX (s:=s) h2 (by omega);omega
  ·omega
theorem Mb(s:ByteArray)(i:Nat):(iA s).aZ i=(bd s i:Int):=by
 unfold TX.aZ bd iA;simp only[Cb]
 cases(aJ s)[i]? <;>rfl
theorem SF(h:i<(aJ s).length):(iA s).bF i=((Utf8.decode s (bd s i)).1:Int):=by
 unfold TX.bF iA;simp only[Cb,Ae h,Da,De];rw[AW h];exact(IE s).bF i h
theorem OD(s:ByteArray):(aJ s).length<=s.size:=by
 have:∀i,i<=(aJ s).length->i<=bd s i:=by
  intro i;induction i with
  |zero=>intro _;exact Al _
  |succ i ih=>
   intro h;have:=pY (s:=s) (i:=i) (by omega);have:=ih (by omega);omega
 have h:=this _ (Ab _);rw[nI (Ab _)]at h;exact h
theorem agP(s:ByteArray)(k:Nat)(hk:k<s.size):∃i,i<(aJ s).length/\bd s i<=k/\k<bd s (i+1):=by
 have:∀d i,(aJ s).length-i<=d->i<=(aJ s).length->bd s i<=k->∃i,i<(aJ s).length/\bd s i<=k/\k<bd s (i+1):=by
  intro d;induction d with
  |zero=>intro i h1 h2 h3;rw[nI (by omega)]at h3;omega
  |succ d ih=>
   intro i h1 h2 h3;by_cases hi:i<(aJ s).length
   ·by_cases aS:k<bd s (i+1)
    ·exact⟨i,hi,h3,aS⟩
    ·exact ih (i+1) (by omega) (by omega) (by omega)
   ·rw[nI (by omega)]at h3;omega
 exact this _ 0 (Ab _) (Al _) (by rw[sS];omega)
theorem agQ(s:ByteArray)(k:Nat)(hk:k<s.size)(h:(s.get! k).toNat/64≠2):∃i,i<(aJ s).length/\bd s i=k:=by
 obtain⟨i,h1,h2,h3⟩:=agP s k hk;refine⟨i,h1,?_⟩;apply Dv;intro aB;have hw:=Gq s _ (xu h1);rw[uc h1]at h3;have:=(hw.2.2.2.1 (by omega)).2.2 (k-bd s i) (by omega) (by omega);rw[show bd s i+(k-bd s i)=k by omega]at this;exact h this
theorem adf(h:i<(aJ s).length):((Lib.decodeLastL (s.extract 0 (bd s (i+1))).data.toList).1:Int)=(iA s).bF i:=by
 have hq:=xu h;have bD:=pY h;have hp:=i_ s (i+1);have hw:=Gq s _ hq;have pF:=uc h;have aW:(s.extract 0 (bd s (i+1))).size=bd s (i+1):=by rw[extract_size s 0 _ hp];rfl
 have hg:∀k,k<bd s (i+1)->(s.extract 0 (bd s (i+1))).get! k=s.get! k:=fun k hk=>by rw[vN s 0 _ k hp (by omega),Ba]
 rw[SF h];by_cases ha:(s.get! (bd s (i+1)-1)).toNat<128
 ·
  have oM:(Utf8.decode s (bd s i)).2=1:=by
   apply Dv
   intro aB;have h1:=(hw.2.2.2.1 (by omega)).2.2 ((Utf8.decode s (bd s i)).2-1) (by omega) (by omega);rw[show bd s i+((Utf8.decode s (bd s i)).2-1)=bd s (i+1)-1 by omega]at h1;omega
  have e:bd s (i+1)-1=bd s i:=by omega
  rw[e]at ha;rw[hw.2.2.2.2.1 ha];unfold Lib.decodeLastL
  have aB:(s.extract 0 (bd s (i+1))).data.toList≠ []:=fun h0=>by
   have:=E0 (s.extract 0 (bd s (i+1)));rw[aW,h0,Bf]at this;omega
  rw[if_neg aB,<-E0,aW,Lib.getD_get!,hg (bd s (i+1)-1) (by omega),e,if_pos ha]
 ·rw[Lib.decodeLastL_eq _ (by omega) (by rw[aW,hg _ (by omega)];omega)];generalize NF:Lib.lastStart (s.extract 0 (bd s (i+1))).data.toList=st;unfold Lib.lastOf;rw[aW];have hl:(s.extract 0 (bd s (i+1))).data.toList.length=bd s (i+1):=by rw[<-E0,aW]
  have aB:(s.extract 0 (bd s (i+1))).data.toList≠ []:=fun h0=>by rw[h0]at hl;simp at hl;omega
  have az:=Lib.lastStart_lt _ aB;rw[NF,hl]at az
  have jC:∀k,1<=k->k<=bd s (i+1)->Lib.runeStartB ((s.extract 0 (bd s (i+1))).data.toList.getD (bd s (i+1)-k) 0)=decide ((s.get! (bd s (i+1)-k)).toNat/64≠2):=fun k k1 k2=>by
   rw[Lib.getD_get!,hg _ (by omega)];unfold Lib.runeStartB;rw[Bi];simp
  have hD:Lib.decodeGo ((s.extract 0 (bd s (i+1))).extract st (bd s (i+1)))=Utf8.decode (s.extract 0 (bd s (i+1))) st:=by
   have:=UV (s.extract 0 (bd s (i+1))) st (by omega);rw[aW]at this;exact this
  rw[hD];by_cases Ry:(Utf8.decode s (bd s i)).2=1
  ·
   have e:bd s (i+1)-1=bd s i:=(by omega);have ajm:(Utf8.decode s (bd s i)).1=65533:=hw.2.2.2.2.2 (by rw[<-e];omega) Ry;rw[ajm];split
   ·rename_i gx
    have hwT:=Gq (s.extract 0 (bd s (i+1))) st (by omega);by_cases hb:(Utf8.decode (s.extract 0 (bd s (i+1))) st).2=1
    ·have est:st=bd s i:=(by omega);have:=hwT.2.2.2.2.2 (by rw[est,hg _ (by omega),<-e];omega) hb;rw[this]
    ·exfalso
     have acH:=(hwT.2.2.2.1 (by omega)).1;rw[hg _ (by omega)]at acH;obtain⟨j,j1,j2⟩:=agQ s st (by omega) acH
     have G9:Utf8.decode (s.extract 0 (bd s (i+1))) st=Utf8.decode s st:=by
      have wj:=Gq s _ (xu j1)
      have hle:bd s (j+1)<=bd s (i+1):=by
       have:j<i+1:=by
        apply Dv
        intro hx;have:=fZ s (show i+1<=j by omega);omega
       exact fZ s (by omega)
      rw[uc j1,j2]at hle;have:=Gp s 0 (bd s (i+1)) st hp (by omega) (by rw[Ba];omega);rw[Ba]at this;exact this
     rw[G9]at gx hb;have e2:bd s (j+1)=bd s (i+1):=by rw[uc j1,j2];exact gx
     have:=Qm (by omega) (by omega) e2;have:j=i:=(by omega);subst this;omega
   ·rfl
  ·
   have acf:=hw.2.2.2.1 (by omega)
   have RI:st=bd s i:=by
    have hk:(Utf8.decode s (bd s i)).2=2\/(Utf8.decode s (bd s i)).2=3\/(Utf8.decode s (bd s i)).2=4:=(by omega);rw[<-NF]
    have acI:∀k,bd s i+k<bd s (i+1)->Lib.runeStartB ((s.extract 0 (bd s (i+1))).data.toList.getD (bd s i+k) 0)=decide ((s.get! (bd s i+k)).toNat/64≠2):=fun k hk=>by
     have:=jC (bd s (i+1)-(bd s i+k)) (by omega) (by omega);rw[show bd s (i+1)-(bd s (i+1)-(bd s i+k))=bd s i+k by omega]at this;exact this
    have s0:Lib.runeStartB ((s.extract 0 (bd s (i+1))).data.toList.getD (bd s i) 0)=true:=by
     have:=acI 0 (by omega);simp only[Dr]at this;rw[this];exact C2 acf.1
    have sk:∀k,1<=k->k<(Utf8.decode s (bd s i)).2->Lib.runeStartB ((s.extract 0 (bd s (i+1))).data.toList.getD (bd s i+k) 0)=false:=fun k k1 k2=>by
     rw[acI k (by omega)];exact Bg fun hx=>hx (acf.2.2 k k1 k2)
    rcases hk with hk|hk|hk
    ·exact Lib.lastStart_at2 _ _ (by omega) s0
    ·exact Lib.lastStart_at3 _ _ (by omega) (sk 1 (by omega) (by omega)) s0
    ·exact Lib.lastStart_at4 _ _ (by omega) (sk 2 (by omega) (by omega)) (sk 1 (by omega) (by omega)) s0
   have G9:Utf8.decode (s.extract 0 (bd s (i+1))) st=Utf8.decode s (bd s i):=by
    have:=Gp s 0 (bd s (i+1)) (bd s i) hp (by omega) (by rw[Ba];omega);rw[Ba]at this;rw[RI];exact this
   rw[G9,if_pos (by omega)]
theorem ae8(cY:i<=j)(hj:j<=(aJ s).length):∀(m k:Nat),j-k<=m->i<=k->k<=j->
 gT (s.extract (bd s i) (bd s j)) m (bd s k-bd s i)=((aJ s).drop k|>.take (j-k)).map fun p=>(p.1-bd s i,p.2)
 |0,k,h,h1,h2=>by rw[show j-k=0 by omega];simp[gT]
 |m+1,k,h,h1,h2=>by
  have aW:(s.extract (bd s i) (bd s j)).size=bd s j-bd s i:=extract_size s _ _ (i_ s j);have m1:=fZ s h1;unfold gT;by_cases hk:k<j
  ·have gK:k<(aJ s).length:=(by omega);have az:=AX (s:=s) hk gK;have pF:=uc gK;have hle:=fZ s (show k+1<=j by omega)
   have G9:Utf8.decode (s.extract (bd s i) (bd s j)) (bd s k-bd s i)=Utf8.decode s (bd s k):=by
    have:=Gp s (bd s i) (bd s j) (bd s k-bd s i) (i_ s j) (by omega) (by rw[show bd s i+(bd s k-bd s i)=bd s k by omega];omega);rw[show bd s i+(bd s k-bd s i)=bd s k by omega]at this;exact this
   rw[if_pos (by omega),G9,show bd s k-bd s i+(Utf8.decode s (bd s k)).2=bd s (k+1)-bd s i by omega,ae8 cY hj m (k+1) (by omega) (by omega) (by omega)];rw[Bw gK,show j-k=(j-(k+1))+1 by omega,C5,Ch];congr 1;rw[Cp];exact⟨by rw[<-AW gK],by rw[(IE s).bF k gK,AW gK]⟩
  ·have:k=j:=(by omega);subst this;rw[if_neg (by omega),show k-k=0 by omega];simp
