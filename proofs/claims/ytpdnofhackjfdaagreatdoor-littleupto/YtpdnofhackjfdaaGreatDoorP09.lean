/- The program -/
import Derived.Test.YtpdnofhackjfdaaGreatDoorP08
set_option linter.all false
set_option maxRecDepth 100000
set_option maxHeartbeats 2000000
namespace Go.Proofs.YtpdnofhackjfdaaGreatDoor
open Go.Proofs.Tryz
open Go.RowKit Go.Maps
variable {s:ByteArray} {F:cQ} {c:Int} {ps rs:List Int} {b i j pos:Nat} {o:Obj} {v' vp vr:Value} {w w' w0 w4:World}
def fN(s:ByteArray):Nat->Nat->List (Nat×Int)
 |0,_=>[]
 |m+1,pos=>if pos<s.size then(pos,((Utf8.decode s pos).1:Int))::fN s m (pos+(Utf8.decode s pos).2)else []
def B_(s:ByteArray)(p:Nat×Int):Bool:=p.2==65533&& !(Lib.hasPrefix (s.extract p.1 s.size).data.toList [239,191,189])
def zW:cQ:=⟨none,none,none,none,none,none⟩
def sI(s:ByteArray)(l:List (Nat×Int)):cQ:=l.foldl (fun F p=>if B_ s p then F.eo 2 p.1 else F) zW
theorem TY(s:ByteArray)(l:List (Nat×Int))(p:Nat×Int):sI s (l++[p])=if B_ s p then(sI s l).eo 2 p.1 else sI s l:=by simp[sI]
theorem ahk(s:ByteArray)(pos:Nat)(h:pos<s.size):1<=(Utf8.decode s pos).2:=by
 by_cases ha:(s[pos]'h).toNat<128
 ·rw[decode_ascii s pos h ha];exact Ab _
 ·exact(decode_high s pos h (by omega)).2
theorem anR(s:ByteArray)(m pos:Nat)(h:¬pos<s.size):fN s m pos=[]:=by
 cases m with
 |zero=>rfl
 |succ m=>unfold fN;rw[if_neg h]
theorem Xg(s:ByteArray):∀(m pos:Nat) (p:Nat×Int),p∈fN s m pos->0<=p.2/\p.2<=1114111
 |0,_,p,h=>by simp[fN]at h
 |m+1,pos,p,h=>by
  unfold fN at h;split at h
  ·rcases Cg.1 h with rfl|h
   ·have:=Lib.rune_le s pos;simp only;omega
   ·exact Xg s m _ p h
  ·simp at h
theorem alH{bf:Nat}{D:DataW Unit}(c3:w.cell? ⟨b,3,none⟩=some (.map (some bf)))(hD:w.ownsMap prog 25 (plainElem (H:=Unit) prog 3) bf (Maps.size D) D)(hF:wo D F)(e p:Int)(he:2<=e/\e<=7)(hp:0<=p/\p<=300):
 Calls prog 40 #[.pointer (some ⟨b,0,none⟩),.int .i64 e,.int .i64 p] w fun en w'=>en=.returned (.tuple #[])/\(∃D',w'.ownsMap prog 25 (plainElem (H:=Unit) prog 3) bf (Maps.size D') D'/\wo D' (F.eo e p))/\aa (fun i=>i=bf) w w':=by
 have jk:keyOf prog 25 (.int .i64 e)=some (.int .i64 e):=keyOf_int_mk underlying25 (Dd (by omega));have aP:Maps.size D<maxLen:=by rw[hF.size];have:=F.aaf;unfold maxLen;omega
 go_in
 go_wp2_with (first|(at_lookup;refine Bu _ rfl _ _ 97 rfl 25 3 .i64 xt underlying97 underlying3 (xL _) bf _ D rfl hD _ _ rfl jk ?_;intro c iV yE)|(at_mapUpdate;refine Eq _ rfl _ _ _ 97 rfl 25 3 xt underlying97 _ bf _ _ rfl hD aP _ _ _ rfl rfl jk _ [] (plainElem_int underlying3 (Dd (by omega))) ?_;intro w1 ajA aiZ))
 ·have lR:has D (.int .i64 e)=false:=by have:(!has D (.int .i64 e))=true:=by assumption
                                        simpa using this
  rw[hF.has]at lR;have hF':=hF.put (hD.tidy xt) e p he lR;go_end0;refine⟨rfl,⟨D.put (.int .i64 e) (.lit (.int .i64 p)),?_,?_⟩,(aa.refl _ _).eQ (by assumption) (fun k hk=>Or.inl (by cases hk;rfl))⟩
  ·have e1:Maps.size (D.put (.int .i64 e) (.lit (.int .i64 p)))=Maps.size D+1:=(by rw[hF'.size,hF.size,cQ.TE _ _ _ he lR]);rw[e1];assumption
  ·have hn:F.eo e p=F.put e p:=(by simp[cQ.eo,lR]);rw[hn];exact hF'
 ·have MM:has D (.int .i64 e)=true:=by have:(!has D (.int .i64 e))=false:=by assumption
                                       simpa using this
  rw[hF.has]at MM;go_end0;refine⟨rfl,⟨D,hD,?_⟩,aa.refl _ _⟩;have hn:F.eo e p=F:=by simp[cQ.eo,MM]
  rw[hn];exact hF
structure Nr(w w0:World)(s:ByteArray)(vr vp:Value)(rs ps:List Int)(F:cQ)(pos:Nat):Prop where
 iter:w.heap[w0.heap.size+1+1+1]? =some (.stringIter s pos)
 aj:aq w (w0.heap.size+1+1) #[vr,vp,.int .i64 0,.map (some w0.heap.size),.bool false,.int .i64 0,.map (some (w0.heap.size+1))] 99
 gF:w.ownsRow (w0.heap.size+4) 21 1 vr rs.length (rs.map (Value.int .i32))
 places:w.ownsRow (w0.heap.size+4) 3 1 vp ps.length (ps.map (Value.int .i64))
 fm:∃D,w.ownsMap prog 25 (plainElem (H:=Unit) prog 3) w0.heap.size (Maps.size D) D/\wo D F
 nm:w.ownsMap prog 9 (plainElem (H:=Unit) prog 3) (w0.heap.size+1) 0 (.map [])
 kept:aa af w0 w
 size:w0.heap.size+4<=w.heap.size
theorem ahq:wo (.map []) zW:=⟨isMap_empty,fun e=>by simp[Maps.has,cQ.get,zW],fun e p h=>by simp[cQ.get,zW]at h,rfl⟩
theorem aaE:Is (.map []) []:=⟨isMap_empty,fun e=>by simp[Maps.has],fun e p h=>by simp at h,rfl⟩
theorem alx(w:World)(s:ByteArray):Nr ((((w.alloc (.map #[] 0)).alloc (.map #[] 0)).alloc (.cells #[.slice none 0 0,.slice none 0 0,.int .i64 0,.map (some w.heap.size),.bool false,.int .i64 0,.map (some (w.heap.size+1))] 99)).iter s 0) w s (.slice none 0 0) (.slice none 0 0) [] [] zW 0 where
 iter:=by
  have:=World.iter_heap (((w.alloc (.map #[] 0)).alloc (.map #[] 0)).alloc (.cells #[.slice none 0 0,.slice none 0 0,.int .i64 0,.map (some w.heap.size),.bool false,.int .i64 0,.map (some (w.heap.size+1))] 99)) s 0;rw[fO,fO,fO]at this;exact this
 aj:=by
  have:=(aq.new ((w.alloc (.map #[] 0)).alloc (.map #[] 0)) #[.slice none 0 0,.slice none 0 0,.int .i64 0,.map (some w.heap.size),.bool false,.int .i64 0,.map (some (w.heap.size+1))] 99).alloc (.stringIter s 0);rw[fO,fO]at this;exact this
 gF:=A6 _ _ _ _
 places:=A6 _ _ _ _
 fm:=⟨.map [],(((Ei w prog 25 _).alloc _).alloc _).alloc _,ahq⟩
 nm:=by
  have:=((Ei (w.alloc (.map #[] 0)) prog 9 (plainElem (H:=Unit) prog 3)).alloc (.cells #[.slice none 0 0,.slice none 0 0,.int .i64 0,.map (some w.heap.size),.bool false,.int .i64 0,.map (some (w.heap.size+1))] 99)).alloc (.stringIter s 0);rw[fO]at this;exact this
 kept:=((((aa.refl _ _).alloc _).alloc _).alloc _).alloc _
 size:=by simp[World.iter]
theorem Nr.akp(h:Nr w w0 s vr vp rs ps F pos)(k:aa af w w'):Nr w' w0 s vr vp rs ps F pos where
 iter:=(k.block _ (by have:=h.size;omega) (fun hx=>hx)).trans h.iter
 aj:=h.aj.kept k (fun hx=>hx)
 gF:=bY h.gF k (fun _ _ hx=>hx)
 places:=bY h.places k (fun _ _ hx=>hx)
 fm:=by obtain⟨D,hD,hF⟩:=h.fm;exact⟨D,jK hD k (fun hx=>hx),hF⟩
 nm:=jK h.nm k (fun hx=>hx)
 kept:=h.kept.trans k
 size:=Bb h.size k.size
theorem aa.iterAt{S:Nat->Prop}{a:World}(h:aa S a w){k:Nat}(hk:S k\/a.heap.size<=k)(s:ByteArray)(pos:Nat):aa S a (w.iterAt k s pos):=
 ⟨h.os,h.tape,h.output,by rw[Fw];exact h.size,fun i hi hn=>(Lib.iterAt_other w k i s pos (by
   intro e;subst e;rcases hk with hk|hk
   ·exact hn hk
   ·omega)).trans (h.block i hi hn)⟩
theorem Nr.CI(h:Nr w w0 s vr vp rs ps F pos)(pos':Nat):Nr (w.iterAt (w0.heap.size+1+1+1) s pos') w0 s vr vp rs ps F pos':=by
 have k:aa (fun i=>i=w0.heap.size+1+1+1) w (w.iterAt (w0.heap.size+1+1+1) s pos'):=(aa.refl (fun i=>i=w0.heap.size+1+1+1) w).iterAt (k:=w0.heap.size+1+1+1) (Or.inl rfl) s pos'
 exact{
  iter:=Lib.iterAt_heap w _ s pos pos' h.iter
  aj:=h.aj.kept k (by omega)
  gF:=bY h.gF k (fun b hb hx=>by have:=dE h.gF hb;omega)
  places:=bY h.places k (fun b hb hx=>by have:=dE h.places hb;omega)
  fm:=by obtain⟨D,hD,hF⟩:=h.fm;exact⟨D,jK hD k (by omega),hF⟩
  nm:=jK h.nm k (by omega)
  kept:=h.kept.bZ k (fun i hi he=>by omega)
  size:=by rw[Fw];exact h.size}
theorem Nr.Ww{F':cQ}(h:Nr w w0 s vr vp rs ps F pos)(k:aa (fun i=>i=w0.heap.size) w w')
 (hf:∃D,w'.ownsMap prog 25 (plainElem (H:=Unit) prog 3) w0.heap.size (Maps.size D) D/\wo D F'):Nr w' w0 s vr vp rs ps F' pos where
 iter:=(k.block _ (by have:=h.size;omega) (by omega)).trans h.iter
 aj:=h.aj.kept k (by omega)
 gF:=bY h.gF k (fun b hb hx=>by have:=dE h.gF hb;omega)
 places:=bY h.places k (fun b hb hx=>by have:=dE h.places hb;omega)
 fm:=hf
 nm:=jK h.nm k (by omega)
 kept:=h.kept.bZ k (fun i hi he=>by omega)
 size:=Bb h.size k.size
theorem ado{base n n':Nat}{v:Value}{xs xs':List Value}{e e':TypeId}(he:e≠e')(h:w.ownsRow base e 1 v n xs)(h':w.ownsRow base e' 1 v' n' xs')(hb:v.ownBlock=some b)(jV:v'.ownBlock=some b):False:=by
 rcases h.2 with⟨rfl,_⟩|⟨g,cap,aM,rfl,a1,a2,r⟩
 ·simp[Value.ownBlock]at hb
 ·rcases h'.2 with⟨rfl,_⟩|⟨g',Lo,cur',rfl,a1',a2',r'⟩
  ·simp[Value.ownBlock]at jV
  ·simp[Value.ownBlock]at hb jV
   subst hb jV;rw[a2]at a2';simp at a2';exact he a2'.2
theorem Nr.anb(h:Nr w w0 s vr vp rs ps F pos)
 (bt:w4.ownsRow (w0.heap.size+4) 21 1 v' (rs.length+1) (rs.map (Value.int .i32)++[.int .i32 c]))(hg:(w.alloc o).grownBy w4 vr.ownBlock):
 Nr (w4.setCell ⟨w0.heap.size+1+1,0,none⟩ v') w0 s v' vp (rs++[c]) ps F pos:=by
 have k1:aa (fun i=>vr.ownBlock=some i) w w4:=((aa.refl _ _).alloc o).eQ hg (fun j hj=>Or.inl hj);have ia:∀i,vr.ownBlock=some i->w0.heap.size+4<=i:=fun i hi=>(dE h.gF hi).1
 have k2:aa (fun i=>i=w0.heap.size+1+1) w4 (w4.setCell ⟨w0.heap.size+1+1,0,none⟩ v'):=(aa.refl (fun i=>i=w0.heap.size+1+1) w4).setCell (p:=⟨w0.heap.size+1+1,0,none⟩) (Or.inl rfl) v';have s1:=k1.size;have sz:=h.size
 exact{
  iter:=(k2.block _ (by omega) (by omega)).trans ((k1.block _ (by omega) (fun hx=>by have:=ia _ hx;omega)).trans h.iter)
  aj:=(h.aj.kept k1 (fun hx=>by have:=ia _ hx;omega)).setCell 0 v'
  gF:=by
   have:=bY bt k2 (fun b hb hx=>by have:=dE bt hb;omega);simpa using this
  places:=bY (bY h.places k1 (fun b hb hx=>ado (by decide) h.gF h.places hx hb)) k2 (fun b hb hx=>by have:=dE h.places hb;omega)
  fm:=by obtain⟨D,hD,hF⟩:=h.fm;exact⟨D,jK (jK hD k1 (fun hx=>by have:=ia _ hx;omega)) k2 (by omega),hF⟩
  nm:=jK (jK h.nm k1 (fun hx=>by have:=ia _ hx;omega)) k2 (by omega)
  kept:=(h.kept.bZ k1 (fun i hi he=>by have:=ia _ he;omega)).bZ k2 (fun i hi he=>by omega)
  size:=by have:=k2.size;omega}
theorem Nr.ad2(h:Nr w w0 s vr vp rs ps F pos)
 (bt:w4.ownsRow (w0.heap.size+4) 3 1 v' (ps.length+1) (ps.map (Value.int .i64)++[.int .i64 c]))(hg:(w.alloc o).grownBy w4 vp.ownBlock):
 Nr (w4.setCell ⟨w0.heap.size+1+1,1,none⟩ v') w0 s vr v' rs (ps++[c]) F pos:=by
 have k1:aa (fun i=>vp.ownBlock=some i) w w4:=((aa.refl _ _).alloc o).eQ hg (fun j hj=>Or.inl hj);have ia:∀i,vp.ownBlock=some i->w0.heap.size+4<=i:=fun i hi=>(dE h.places hi).1
 have k2:aa (fun i=>i=w0.heap.size+1+1) w4 (w4.setCell ⟨w0.heap.size+1+1,1,none⟩ v'):=(aa.refl (fun i=>i=w0.heap.size+1+1) w4).setCell (p:=⟨w0.heap.size+1+1,1,none⟩) (Or.inl rfl) v';have s1:=k1.size;have sz:=h.size
 exact{
  iter:=(k2.block _ (by omega) (by omega)).trans ((k1.block _ (by omega) (fun hx=>by have:=ia _ hx;omega)).trans h.iter)
  aj:=(h.aj.kept k1 (fun hx=>by have:=ia _ hx;omega)).setCell 1 v'
  gF:=bY (bY h.gF k1 (fun b hb hx=>ado (by decide) h.gF h.places hb hx)) k2 (fun b hb hx=>by have:=dE h.gF hb;omega)
  places:=by
   have:=bY bt k2 (fun b hb hx=>by have:=dE bt hb;omega);simpa using this
  fm:=by obtain⟨D,hD,hF⟩:=h.fm;exact⟨D,jK (jK hD k1 (fun hx=>by have:=ia _ hx;omega)) k2 (by omega),hF⟩
  nm:=jK (jK h.nm k1 (fun hx=>by have:=ia _ hx;omega)) k2 (by omega)
  kept:=(h.kept.bZ k1 (fun i hi he=>by have:=ia _ he;omega)).bZ k2 (fun i hi he=>by omega)
  size:=by have:=k2.size;omega}
theorem Tryz.VW:(prog.info? 3).map (fun i=>(i.zero,i.size,i.bytes))=some (some (.int .i64 0),1,8):=by kernel_rfl
theorem Tryz.VX:(prog.info? 21).map (fun i=>(i.zero,i.size,i.bytes))=some (some (.int .i32 0),1,4):=by kernel_rfl
theorem Nr.done(h:Nr w w0 s vr vp rs ps F pos)(hl:ps.length=rs.length+1)(hn:rs.length<=300)(hp:∀p∈ps,0<=p/\p<=300)(hrr:∀r∈rs,0<=r/\r<=1114111):
 ∃g:RG,g.b=w0.heap.size+1+1/\g.rs=rs/\g.ps=ps/\aS w g false {next:=0,bm:=F,aR:=0,names:=[]}/\(∀i,g.use i->w0.heap.size<=i):=by
 obtain⟨D,hD,hF⟩:=h.fm;have sz:=h.size
 have cells:∀{e:TypeId} {k:IntKind} {g cap:Nat} {aM:Array Value} {zs:List Int},w.heap[g]? =some (.cells aM e (0,0))->aM.toList.take (zs.length*1)=zs.map (Value.int k)->∀i,i<zs.length->w.cell? ⟨g,i,none⟩=some (.int k (zs.getD i 0)):=by
  intro e k g cap aM zs hc ht i hi;have h1:(zs.map (Value.int k))[i]? =some (.int k (zs.getD i 0)):=by simp[List.getD,Ae hi]
  rw[<-ht,Aw (by omega)]at h1;simp only[World.cell?,hc];simpa using h1
 have pr:∀i,0<=ps.getD i 0/\ps.getD i 0<=300:=by
  intro i;by_cases hi:i<ps.length
  ·have:ps.getD i 0=ps[i]:=(by simp[List.getD,Ae hi]);rw[this];exact hp _ (A5 hi)
  ·have:ps.getD i 0=0:=(by simp[List.getD,Cj (by omega:ps.length<=i)]);rw[this];omega
 rcases h.places.2 with⟨rfl,h0⟩|⟨gp,Pa,apM,rfl,p1,p2,p3,p4,p5,p6⟩
 ·omega
 have Uf:=(Am.1 p2).1;rcases h.gF.2 with⟨rfl,h0⟩|⟨gr,nD,curr,rfl,r1,r2,r3,r4,r5,r6⟩
 ·have e:rs=[]:=Ax.1 h0;subst e;refine⟨{b:=w0.heap.size+1+1,ao:=none,br:=gp,cr:=0,bp:=gp,cp:=Pa,bf:=w0.heap.size,bn:=w0.heap.size+1,rs:=[],ps:=ps},rfl,rfl,rfl,?_,?_⟩
  ·exact{
    aj:=by have:=h.aj;rw[hl]at this;exact this
    isSome:=fun hx=>by simp at hx
    gF:=fun i hi=>by simp at hi
    places:=fun i hi=>cells (cap:=Pa) p2 p6 i (by rw[hl];exact hi)
    og:=Uf
    oe:=Uf
    nc:=pr
    qR:=hrr
    fm:=⟨D,hD,hF⟩
    nm:=⟨.map [],h.nm,aaE⟩
    len:=by simp
    nD:=by simp
    next:=by simp
    aR:=by simp
    names:=by simp
    apart:=by refine⟨?_,?_,?_,?_,?_,?_,?_,?_,?_⟩<;>simp only<;>omega}
  ·intro i hi;rcases hi with rfl|rfl|rfl|rfl|rfl<;>(try simp only)<;>omega
 ·have ais:=(Am.1 r2).1;refine⟨{b:=w0.heap.size+1+1,ao:=some ⟨gr,0,none⟩,br:=gr,cr:=nD,bp:=gp,cp:=Pa,bf:=w0.heap.size,bn:=w0.heap.size+1,rs:=rs,ps:=ps},rfl,rfl,rfl,?_,?_⟩
  ·exact{
    aj:=by have:=h.aj;rw[hl]at this;exact this
    isSome:=fun _=>rfl
    gF:=fun i hi=>cells (cap:=nD) r2 r6 i hi
    places:=fun i hi=>cells (cap:=Pa) p2 p6 i (by rw[hl];exact hi)
    og:=ais
    oe:=Uf
    nc:=pr
    qR:=hrr
    fm:=⟨D,hD,hF⟩
    nm:=⟨.map [],h.nm,aaE⟩
    len:=hn
    nD:=r3
    next:=by simp
    aR:=by simp
    names:=by simp
    apart:=by refine⟨?_,?_,?_,?_,?_,?_,?_,?_,?_⟩<;>simp only<;>omega}
  ·intro i hi;rcases hi with rfl|rfl|rfl|rfl|rfl<;>(try simp only)<;>omega
theorem alw(s:ByteArray)(w:World)(hs:s.size<=300):
 Calls prog 37 #[.string s] w fun e w'=>∃g:RG,e=.returned (.pointer (some ⟨g.b,0,none⟩))/\g.rs=(fN s (s.size+1) 0).map (·.2)/\g.ps=(fN s (s.size+1) 0).map (fun p=>(p.1:Int))++[(s.size:Int)]/\
  aS w' g false {next:=0,bm:=sI s (fN s (s.size+1) 0),aR:=0,names:=[]}/\(∀i,g.use i->w.heap.size<=i)/\aa af w w':=by
 have hmm:=@run_makeMap prog;obtain⟨ii,AT,hiz,his,dQ⟩:=Bp Tryz.VW;obtain⟨ir,U7,hrz,kE,BA⟩:=Bp Tryz.VX;have bC:=alx w s;go_in;go_wp2_with fail;go_loopg [4] s.size (fun kk _ wr=>∃(pos m:Nat) (l:List (Nat×Int)) (rs ps:List Int) (vr vp:Value),Nr wr w s vr vp rs ps (sI s l) pos/\Hid (rs=l.map (·.2)/\ps=l.map fun p=>(p.1:Int))/\rs.length<=pos/\ps.length<=pos/\Hid (l++fN s m pos=fN s (s.size+1) 0)/\kk=s.size-pos/\kk<m/\rs.length<=s.size/\ps.length<=s.size/\Hid (∀p∈l,p.1<=300))
 case atStart=>exact⟨0,s.size+1,[],[],[],_,_,bC,⟨rfl,rfl⟩,by simp,by simp,rfl,rfl,by omega,by simp,by simp,fun p hp=>by simp at hp⟩
 case round=>
  obtain⟨pos,m,l,rs,ps,vr,vp,hN,DP,Qz,jX,HL,rfl,hm,hr5,GC,HS⟩:=hrel;clear bC;by_cases aw:pos<s.size
  ·have hn:=(fun ty=>Lib.run_next_any_at (P:=prog) wr (w.heap.size+1+1+1) s pos ty hN.iter aw);have hdp:=ahk s pos aw;have PA:=hN.CI (pos+(Utf8.decode s pos).2);obtain⟨w1,pR⟩:∃w1,w1=wr.iterAt (w.heap.size+1+1+1) s (pos+(Utf8.decode s pos).2):=⟨_,rfl⟩
   rw[<-pR]at PA;have rK:∀ty,(Instr.next (.pointer (some ⟨w.heap.size+1+1+1,0,none⟩)) true ty).run prog wr=.ok (.tuple #[.bool true,.int .i64 pos,.int .i32 (Utf8.decode s pos).1]) w1:=by rw[pR];exact hn
   clear hn pR
   have HC:Hid ((pos,((Utf8.decode s pos).1:Int))::fN s (m-1) (pos+(Utf8.decode s pos).2)=fN s m pos):=by
    show _=_
    obtain⟨m',rfl⟩:∃m',m=m'+1:=⟨m-1,by omega⟩
    rw[show fN s (m'+1) pos=if pos<s.size then(pos,((Utf8.decode s pos).1:Int))::fN s m' (pos+(Utf8.decode s pos).2)else []from rfl,if_pos aw];rfl
   generalize UW:((Utf8.decode s pos).1:Int)=c at rK HC
   generalize pT:(Utf8.decode s pos).2=wd at hdp PA HC
   clear UW pT
   cases hc:(c==65533)
   case' false=>
    have EF:Hid (sI s (l++[(pos,c)])=sI s l):=by show _=_;rw[TY];simp[B_,hc]
    have AE:=PA;rename World=>wz
   case' true=>
    go_wp2_with fail
    refine(aiG _ _ _).mono ?_;rintro e w2 ⟨rfl,aN⟩;have wS:=PA.akp aN;have dQ:B_ s (pos,c)= !(Lib.hasPrefix (s.extract pos s.size).data.toList [239,191,189]):=by simp[B_,hc]
    cases MD:Lib.hasPrefix (s.extract pos s.size).data.toList [239,191,189]
    case' true=>
     have EF:Hid (sI s (l++[(pos,c)])=sI s l):=by show _=_;rw[TY,dQ,MD];simp
     clear MD dQ;have AE:=wS;rename World=>wz
    case' false=>
     have EF:Hid (sI s (l++[(pos,c)])=(sI s l).eo 2 pos):=by show _=_;rw[TY,dQ,MD];simp
     clear MD dQ;go_wp2_with fail;obtain⟨D,hD,hF⟩:=wS.fm;refine(alH (b:=w.heap.size+1+1) (wS.aj.cell 3) hD hF 2 pos (by omega) (by omega)).mono ?_;rintro e w3 ⟨rfl,hf3,bA⟩;have hN3:=wS.Ww bA hf3;have AE:=hN3;rename World=>wz
   all_goals
    have c0:wz.cell? ⟨w.heap.size+1+1,0,none⟩=some vr:=AE.aj.cell 0;go_wp2_with (at_builtin;refine Ap _ rfl _ _ 96 rfl (w.heap.size+4) 21 ir _ 1 4 underlying96 U7 hrz kE BA rfl (by decide) _ _ _ rfl (AE.gF.alloc _) ⟨wz.heap.size,0,none⟩ 1 1 [.int .i32 c] rfl rfl (by exact cell_one_new _ _ _) (by intro u hu;simp at hu;subst hu;rfl) (by unfold maxLen;omega) (by omega) (by have:=AE.size;simp;omega) ?_);intro v' w4 bH b_ dS cB;have rA:=AE.anb bH b_;have b4:=(AE.aj.kept (((aa.refl (fun i=>vr.ownBlock=some i) wz).alloc _).eQ b_ (fun j hj=>Or.inl hj)) (fun hx=>by have:=(dE AE.gF hx).1;omega));obtain⟨jh,cc4,GJ⟩:=cK bH;rw[GJ]at rA⊢;clear bH b_ dS cB GJ c0;have c40:w4.cell? ⟨w.heap.size+1+1,0,none⟩=some vr:=b4.cell 0;have f40:=b4.frozen 0;have c41:(w4.setCell ⟨w.heap.size+1+1,0,none⟩ (.slice jh (rs.length+1) cc4)).cell? ⟨w.heap.size+1+1,1,none⟩=some vp:=rA.aj.cell 1;go_wp2_with (at_builtin;refine Ap _ rfl _ _ 22 rfl (w.heap.size+4) 3 ii _ 1 8 underlying22 AT hiz his dQ rfl (by decide) _ _ _ rfl (rA.places.alloc _) ⟨w4.heap.size,0,none⟩ 1 1 [.int .i64 (pos:Int)] rfl rfl ?c1 ?c2 ?c3 ?c4 ?c5 ?_)
    case c1=>
     have:=cell_one_new (w4.setCell ⟨w.heap.size+1+1,0,none⟩ (.slice jh (rs.length+1) cc4)) (.int .i64 (pos:Int)) 3;simpa[World.setCell]using this
    case c2=>intro u hu;simp at hu;subst hu;rfl
    case c3=>unfold maxLen;omega
    case c4=>omega
    case c5=>have:=rA.size;simp[World.setCell]at this⊢;omega
    intro v5 w5 sU Gs Vq Vi;have IW:=rA.ad2 sU Gs;have b5:=(rA.aj.kept (((aa.refl (fun i=>vp.ownBlock=some i) _).alloc _).eQ Gs (fun j hj=>Or.inl hj)) (fun hx=>by have:=(dE rA.places hx).1;omega));obtain⟨Tp,cc5,gQ⟩:=cK sU;rw[gQ]at IW⊢;clear sU Gs Vq Vi gQ c40 f40 c41 b4 rA;have c51:w5.cell? ⟨w.heap.size+1+1,1,none⟩=some vp:=b5.cell 1;have f51:=b5.frozen 1;go_wp2_with fail;go_roundg (s.size-(pos+wd))
    case measure=>omega
    case rel=>
     refine⟨pos+wd,m-1,l++[(pos,c)],rs++[c],ps++[(pos:Int)],_,_,EF.o.symm▸IW,⟨by rw[DP.o.1];simp,by rw[DP.o.2];simp⟩,by simp;omega,by simp;omega,?_,rfl,by omega,by simp;omega,by simp;omega,?_⟩
     ·show _=_
      rw[<-HL.o,<-HC.o];simp
     ·intro p hp;rcases Al.1 hp with hp|hp
      ·exact HS.o p hp
      ·simp at hp;subst hp;simp only;omega
  ·have hn:=(fun ty=>Lib.run_next_end_at (P:=prog) wr (w.heap.size+1+1+1) s pos ty hN.iter aw);have c1:wr.cell? ⟨w.heap.size+1+1,1,none⟩=some vp:=hN.aj.cell 1
   have Ig:Hid (l=fN s (s.size+1) 0):=by
    show _=_
    have:=HL.o;rw[anR s m pos aw,C8]at this;exact this
   go_wp2_with (at_builtin;refine Ap _ rfl _ _ 22 rfl (w.heap.size+4) 3 ii _ 1 8 underlying22 AT hiz his dQ rfl (by decide) _ _ _ rfl (hN.places.alloc _) ⟨wr.heap.size,0,none⟩ 1 1 [.int .i64 (s.size:Int)] rfl rfl ?c1 ?c2 ?c3 ?c4 ?c5 ?_)
   case c1=>exact cell_one_new _ _ _
   case c2=>intro u hu;simp at hu;subst hu;rfl
   case c3=>unfold maxLen;omega
   case c4=>omega
   case c5=>have:=hN.size;simp;omega
   intro v5 w5 sU Gs Vq Vi;have IW:=hN.ad2 sU Gs;have b5:=(hN.aj.kept (((aa.refl (fun i=>vp.ownBlock=some i) _).alloc _).eQ Gs (fun j hj=>Or.inl hj)) (fun hx=>by have:=(dE hN.places hx).1;omega));obtain⟨Tp,cc5,gQ⟩:=cK sU;rw[gQ]at IW⊢;clear sU Gs Vq Vi gQ c1 hn;have c51:w5.cell? ⟨w.heap.size+1+1,1,none⟩=some vp:=b5.cell 1;have f51:=b5.frozen 1;go_wp2_with fail;have cT:ps.length=rs.length:=by have:=DP.o;rw[this.1,this.2];simp
   obtain⟨g,gb,grs,gps,Ji,BL⟩:=IW.done (by simp;omega) (by omega) (fun p hp=>by
    rcases Al.1 hp with hp|hp
    ·rw[DP.o.2]at hp;obtain⟨x,hx,rfl⟩:=Bg.1 hp;have:=HS.o x hx;omega
    ·simp at hp;subst hp;omega) (fun r hr=>by
     rw[DP.o.1,Ig.o]at hr;obtain⟨x,hx,rfl⟩:=Bg.1 hr;exact Xg s _ _ x hx)
   go_ret
   refine⟨g,by rw[gb];rfl,?_,?_,?_,BL,IW.kept⟩
   ·rw[grs,DP.o.1,<-Ig.o]
   ·rw[gps,DP.o.2,<-Ig.o]
   ·rw[<-Ig.o];exact Ji
theorem ahj(n b0 b1 b2 b3:Nat)(hn:1<=n):1<=(Lib.decodeN n b0 b1 b2 b3).2/\(Lib.decodeN n b0 b1 b2 b3).2<=n/\(Lib.decodeN n b0 b1 b2 b3).2<=4/\
 (1<(Lib.decodeN n b0 b1 b2 b3).2->b0/64≠2/\128<=b0/\b1/64=2/\(2<(Lib.decodeN n b0 b1 b2 b3).2->b2/64=2)/\(3<(Lib.decodeN n b0 b1 b2 b3).2->b3/64=2))/\
 (b0<128->Lib.decodeN n b0 b1 b2 b3=(b0,1))/\(128<=b0->(Lib.decodeN n b0 b1 b2 b3).2=1->(Lib.decodeN n b0 b1 b2 b3).1=65533):=by
 unfold Lib.decodeN;by_cases h0:b0<128
 ·rw[if_pos h0];exact⟨by simp,by simp;omega,by simp,fun h=>by simp at h,fun _=>rfl,fun h=>by omega⟩
 ·rw[if_neg h0];repeat' split
  all_goals(refine⟨by simp,by simp;omega,by simp,fun h=>?_,fun h=>absurd h h0,fun _ h=>?_⟩<;>first|(simp at h;done)|rfl|(simp only[]at h⊢;omega))
theorem ahi(n m b0 b1 b2 b3 c1 c2 c3:Nat)(hm:1<=m)(dJ:m<=n)(h1:1<m->c1=b1)(h2:2<m->c2=b2)(h3:3<m->c3=b3)(hw:(Lib.decodeN n b0 b1 b2 b3).2<=m):Lib.decodeN m b0 c1 c2 c3=Lib.decodeN n b0 b1 b2 b3:=by
 unfold Lib.decodeN at*;by_cases h0:b0<128
 ·rw[if_pos h0,if_pos h0]
 ·rw[if_neg h0]at hw⊢;rw[if_neg h0];by_cases k1:1<m
  ·have e1:=h1 k1;subst e1;by_cases k2:2<m
   ·have e2:=h2 k2;subst e2;by_cases k3:3<m
    ·have e3:=h3 k3;subst e3;have a1:1<n:=(by omega);have a2:2<n:=(by omega);have a3:3<n:=(by omega);simp only[k1,k2,k3,a1,a2,a3,true_and]
    ·have a1:1<n:=(by omega);have a2:2<n:=(by omega);simp only[k1,k2,k3,a1,a2,true_and,false_and,and_false,if_false]at hw⊢;repeat' split
     all_goals first|rfl|(exfalso;simp_all;done)|(exfalso;simp_all;omega)
   ·have a1:1<n:=(by omega);simp only[k1,k2,a1,show¬3<m by omega,true_and,false_and,and_false,if_false]at hw⊢;repeat' split
    all_goals first|rfl|(exfalso;simp_all;done)|(exfalso;simp_all;omega)
  ·simp only[k1,show¬2<m by omega,show¬3<m by omega,false_and,and_false,if_false]at hw⊢;repeat' split
   all_goals first|rfl|(exfalso;simp_all;done)|(exfalso;simp_all;omega)
theorem zP(s:ByteArray)(p:Nat)(h:p<s.size):1<=(Utf8.decode s p).2/\p+(Utf8.decode s p).2<=s.size/\(Utf8.decode s p).2<=4/\
 (1<(Utf8.decode s p).2->(s.get! p).toNat/64≠2/\128<=(s.get! p).toNat/\∀k,1<=k->k<(Utf8.decode s p).2->(s.get! (p+k)).toNat/64=2)/\
 ((s.get! p).toNat<128->Utf8.decode s p=((s.get! p).toNat,1))/\(128<=(s.get! p).toNat->(Utf8.decode s p).2=1->(Utf8.decode s p).1=65533):=by
 rw[Lib.decode_at];obtain⟨a1,a2,a3,a4,a5,a6⟩:=ahj (s.size-p) (s.get! p).toNat (s.get! (p+1)).toNat (s.get! (p+2)).toNat (s.get! (p+3)).toNat (by omega);refine⟨a1,by omega,a3,fun h1=>?_,a5,a6⟩;obtain⟨b1,b2,b3,b4,b5⟩:=a4 h1;refine⟨b1,b2,fun k k1 k2=>?_⟩;have:k=1\/k=2\/k=3:=by omega
 rcases this with rfl|rfl|rfl
 ·exact b3
 ·exact b4 k2
 ·exact b5 k2
theorem vf(s:ByteArray)(a b k:Nat)(hb:b<=s.size)(hk:a+k<b):(s.extract a b).get! k=s.get! (a+k):=by
 rw[<-Lib.getD_get!,<-Lib.getD_get!,Cw];simp only[Af];congr 1;rw[Aw (by omega),Ds]
theorem extract_size(s:ByteArray)(a b:Nat)(hb:b<=s.size):(s.extract a b).size=b-a:=by
 rw[E0,Cw,Dq,List.length_drop,<-E0];omega
theorem EH(s:ByteArray)(a b p:Nat)(hb:b<=s.size)(hp:a+p<b)(hw:a+p+(Utf8.decode s (a+p)).2<=b):Utf8.decode (s.extract a b) p=Utf8.decode s (a+p):=by
 rw[Lib.decode_at]at hw⊢;rw[Lib.decode_at,extract_size s a b hb,vf s a b p hb hp];refine ahi _ _ _ _ _ _ _ _ _ (by omega) (by omega) (fun h=>?_) (fun h=>?_) (fun h=>?_) (by omega)
 ·rw[vf s a b (p+1) hb (by omega)];rfl
 ·rw[vf s a b (p+2) hb (by omega)];rfl
 ·rw[vf s a b (p+3) hb (by omega)];rfl
theorem TJ(s:ByteArray)(p:Nat)(h:p<s.size):Lib.decodeGo (s.extract p s.size)=Utf8.decode s p:=by
 have hs:=extract_size s p s.size (Ab _);have hw:=zP s p h;unfold Lib.decodeGo;rw[if_neg (by omega),EH s p s.size 0 (Ab _) (by omega) (by rw[Dt];omega),Dt]
structure XW(s:ByteArray)(a:Nat)(l:List (Nat×Int)):Prop where
 first:∀h:0<l.length,l[0].1=a
 none:l.length=0->a=s.size
 lt:∀i,(h:i<l.length)->l[i].1<s.size
 bl:∀i,(h:i<l.length)->l[i].2=((Utf8.decode s l[i].1).1:Int)
 next:∀i,(h:i+1<l.length)->l[i+1].1=l[i].1+(Utf8.decode s l[i].1).2
 eU:∀i,(h:i+1=l.length)->s.size=l[i].1+(Utf8.decode s l[i].1).2
theorem aek(s:ByteArray):∀(m pos:Nat),s.size-pos<=m->pos<=s.size->XW s pos (fN s m pos)
 |0,pos,h,hp=>⟨fun h=>by simp[fN]at h,fun _=>by omega,fun i h=>by simp[fN]at h,fun i h=>by simp[fN]at h,fun i h=>by simp[fN]at h,fun i h=>by simp[fN]at h⟩
 |m+1,pos,h,hp=>by
  unfold fN;by_cases aw:pos<s.size
  ·rw[if_pos aw];have hw:=zP s pos aw;have ih:=aek s m (pos+(Utf8.decode s pos).2) (by omega) (by omega);refine⟨fun _=>rfl,fun h=>by simp at h,fun i hi=>?_,fun i hi=>?_,fun i hi=>?_,fun i hi=>?_⟩
   ·cases i with
    |zero=>exact aw
    |succ i=>exact ih.lt i (by simpa using hi)
   ·cases i with
    |zero=>rfl
    |succ i=>exact ih.bl i (by simpa using hi)
   ·cases i with
    |zero=>exact ih.first (by simpa using hi)
    |succ i=>exact ih.next i (by simpa using hi)
   ·cases i with
    |zero=>exact(ih.none (by simpa using hi.symm)).symm
    |succ i=>exact ih.eU i (by simpa using hi)
  ·rw[if_neg aw];exact⟨fun h=>by simp at h,fun _=>by omega,fun i h=>by simp at h,fun i h=>by simp at h,fun i h=>by simp at h,fun i h=>by simp at h⟩
def aF(s:ByteArray):List (Nat×Int):=fN s s.size 0
def fP(s:ByteArray):TX:=⟨aF s,s.size⟩
def bd(s:ByteArray)(i:Nat):Nat:=((aF s)[i]?.map (·.1)).getD s.size
theorem Hq(s:ByteArray):XW s 0 (aF s):=aek s s.size 0 (by omega) (Ao _)
theorem zL(h:i<(aF s).length):bd s i=(aF s)[i].1:=by unfold bd;rw[Ae h];rfl
theorem mP(h:(aF s).length<=i):bd s i=s.size:=by unfold bd;rw[Cj h];rfl
theorem sB(s:ByteArray):bd s 0=0:=by
 by_cases h:0<(aF s).length
 ·rw[zL h];exact(Hq s).first h
 ·rw[mP (by omega)];exact((Hq s).none (by omega)).symm
theorem u2(h:i<(aF s).length):bd s i<s.size:=by rw[zL h];exact(Hq s).lt i h
theorem iQ(s:ByteArray)(i:Nat):bd s i<=s.size:=by
 by_cases h:i<(aF s).length
 ·exact Nat.le_of_lt (u2 h)
 ·rw[mP (by omega)];exact Ab _
theorem sA(h:i<(aF s).length):bd s (i+1)=bd s i+(Utf8.decode s (bd s i)).2:=by
 rw[zL h];by_cases h2:i+1<(aF s).length
 ·rw[zL h2];exact(Hq s).next i h2
 ·rw[mP (by omega)];exact(Hq s).eU i (by omega)
theorem pJ(h:i<(aF s).length):bd s i<bd s (i+1)/\bd s (i+1)<=bd s i+4:=by
 have:=zP s _ (u2 h);rw[sA h];omega
theorem fR(s:ByteArray)(h:i<=j):bd s i<=bd s j:=by
 induction j with
 |zero=>have:i=0:=by omega
        subst this;exact Ab _
 |succ j ih=>
  by_cases e:i=j+1
  ·subst e;exact Ab _
  ·have h1:=ih (by omega);by_cases hj:j<(aF s).length
   ·have:=pJ hj;omega
   ·rw[mP (i:=j+1) (by omega)];exact iQ s i
theorem zM(h:i<j)(hj:i<(aF s).length):bd s i<bd s j:=by
 have h1:=pJ hj;have h2:=fR s (show i+1<=j by omega);omega
theorem OY(hi:i<=(aF s).length)(hj:j<=(aF s).length)(h:bd s i=bd s j):i=j:=by
 by_cases h1:i<j
 ·have:=zM (s:=s) h1 (by omega);omega
 ·by_cases h2:j<i
  ·have:=zM (s:=s) h2 (by omega);omega
  ·omega
theorem Ll(s:ByteArray)(i:Nat):(fP s).aY i=(bd s i:Int):=by
 unfold TX.aY bd fP;simp only[Bv]
 cases(aF s)[i]? <;>rfl
theorem Nz(h:i<(aF s).length):(fP s).bl i=((Utf8.decode s (bd s i)).1:Int):=by
 unfold TX.bl fP;simp only[Bv,Ae h,C9,Dr];rw[zL h];exact(Hq s).bl i h
theorem Rw(s:ByteArray):(aF s).length<=s.size:=by
 have:∀i,i<=(aF s).length->i<=bd s i:=by
  intro i;induction i with
  |zero=>intro _;exact Ao _
  |succ i ih=>
   intro h;have:=pJ (s:=s) (i:=i) (by omega);have:=ih (by omega);omega
 have h:=this _ (Ab _);rw[mP (Ab _)]at h;exact h
theorem af0(s:ByteArray)(k:Nat)(hk:k<s.size):∃i,i<(aF s).length/\bd s i<=k/\k<bd s (i+1):=by
 have:∀d i,(aF s).length-i<=d->i<=(aF s).length->bd s i<=k->∃i,i<(aF s).length/\bd s i<=k/\k<bd s (i+1):=by
  intro d;induction d with
  |zero=>intro i h1 h2 h3;rw[mP (by omega)]at h3;omega
  |succ d ih=>
   intro i h1 h2 h3;by_cases hi:i<(aF s).length
   ·by_cases aN:k<bd s (i+1)
    ·exact⟨i,hi,h3,aN⟩
    ·exact ih (i+1) (by omega) (by omega) (by omega)
   ·rw[mP (by omega)]at h3;omega
 exact this _ 0 (Ab _) (Ao _) (by rw[sB];omega)
theorem af1(s:ByteArray)(k:Nat)(hk:k<s.size)(h:(s.get! k).toNat/64≠2):∃i,i<(aF s).length/\bd s i=k:=by
 obtain⟨i,h1,h2,h3⟩:=af0 s k hk;refine⟨i,h1,?_⟩;apply Dw;intro az;have hw:=zP s _ (u2 h1);rw[sA h1]at h3;have:=(hw.2.2.2.1 (by omega)).2.2 (k-bd s i) (by omega) (by omega);rw[show bd s i+(k-bd s i)=k by omega]at this;exact h this
theorem acv(h:i<(aF s).length):((Lib.decodeLastL (s.extract 0 (bd s (i+1))).data.toList).1:Int)=(fP s).bl i:=by
 have hq:=u2 h;have bC:=pJ h;have hp:=iQ s (i+1);have hw:=zP s _ hq;have pk:=sA h;have aP:(s.extract 0 (bd s (i+1))).size=bd s (i+1):=by rw[extract_size s 0 _ hp];rfl
 have hg:∀k,k<bd s (i+1)->(s.extract 0 (bd s (i+1))).get! k=s.get! k:=fun k hk=>by rw[vf s 0 _ k hp (by omega),Bf]
 rw[Nz h];by_cases ha:(s.get! (bd s (i+1)-1)).toNat<128
 ·
  have pR:(Utf8.decode s (bd s i)).2=1:=by
   apply Dw
   intro az;have h1:=(hw.2.2.2.1 (by omega)).2.2 ((Utf8.decode s (bd s i)).2-1) (by omega) (by omega);rw[show bd s i+((Utf8.decode s (bd s i)).2-1)=bd s (i+1)-1 by omega]at h1;omega
  have e:bd s (i+1)-1=bd s i:=by omega
  rw[e]at ha;rw[hw.2.2.2.2.1 ha];unfold Lib.decodeLastL
  have az:(s.extract 0 (bd s (i+1))).data.toList≠ []:=fun h0=>by
   have:=E0 (s.extract 0 (bd s (i+1)));rw[aP,h0,A8]at this;omega
  rw[if_neg az,<-E0,aP,Lib.getD_get!,hg (bd s (i+1)-1) (by omega),e,if_pos ha]
 ·rw[Lib.decodeLastL_eq _ (by omega) (by rw[aP,hg _ (by omega)];omega)];generalize MG:Lib.lastStart (s.extract 0 (bd s (i+1))).data.toList=st;unfold Lib.lastOf;rw[aP];have hl:(s.extract 0 (bd s (i+1))).data.toList.length=bd s (i+1):=by rw[<-E0,aP]
  have az:(s.extract 0 (bd s (i+1))).data.toList≠ []:=fun h0=>by rw[h0]at hl;simp at hl;omega
  have aw:=Lib.lastStart_lt _ az;rw[MG,hl]at aw
  have iV:∀k,1<=k->k<=bd s (i+1)->Lib.runeStartB ((s.extract 0 (bd s (i+1))).data.toList.getD (bd s (i+1)-k) 0)=decide ((s.get! (bd s (i+1)-k)).toNat/64≠2):=fun k k1 k2=>by
   rw[Lib.getD_get!,hg _ (by omega)];unfold Lib.runeStartB;rw[Be];simp
  have hD:Lib.decodeGo ((s.extract 0 (bd s (i+1))).extract st (bd s (i+1)))=Utf8.decode (s.extract 0 (bd s (i+1))) st:=by
   have:=TJ (s.extract 0 (bd s (i+1))) st (by omega);rw[aP]at this;exact this
  rw[hD];by_cases Qs:(Utf8.decode s (bd s i)).2=1
  ·
   have e:bd s (i+1)-1=bd s i:=(by omega);have aiL:(Utf8.decode s (bd s i)).1=65533:=hw.2.2.2.2.2 (by rw[<-e];omega) Qs;rw[aiL];split
   ·rename_i ff
    have hwT:=zP (s.extract 0 (bd s (i+1))) st (by omega);by_cases hb:(Utf8.decode (s.extract 0 (bd s (i+1))) st).2=1
    ·have est:st=bd s i:=(by omega);have:=hwT.2.2.2.2.2 (by rw[est,hg _ (by omega),<-e];omega) hb;rw[this]
    ·exfalso
     have abX:=(hwT.2.2.2.1 (by omega)).1;rw[hg _ (by omega)]at abX;obtain⟨j,j1,j2⟩:=af1 s st (by omega) abX
     have F_:Utf8.decode (s.extract 0 (bd s (i+1))) st=Utf8.decode s st:=by
      have wj:=zP s _ (u2 j1)
      have hle:bd s (j+1)<=bd s (i+1):=by
       have:j<i+1:=by
        apply Dw
        intro hx;have:=fR s (show i+1<=j by omega);omega
       exact fR s (by omega)
      rw[sA j1,j2]at hle;have:=EH s 0 (bd s (i+1)) st hp (by omega) (by rw[Bf];omega);rw[Bf]at this;exact this
     rw[F_]at ff hb;have e2:bd s (j+1)=bd s (i+1):=by rw[sA j1,j2];exact ff
     have:=OY (by omega) (by omega) e2;have:j=i:=(by omega);subst this;omega
   ·rfl
  ·
   have abv:=hw.2.2.2.1 (by omega)
   have QC:st=bd s i:=by
    have hk:(Utf8.decode s (bd s i)).2=2\/(Utf8.decode s (bd s i)).2=3\/(Utf8.decode s (bd s i)).2=4:=(by omega);rw[<-MG]
    have abY:∀k,bd s i+k<bd s (i+1)->Lib.runeStartB ((s.extract 0 (bd s (i+1))).data.toList.getD (bd s i+k) 0)=decide ((s.get! (bd s i+k)).toNat/64≠2):=fun k hk=>by
     have:=iV (bd s (i+1)-(bd s i+k)) (by omega) (by omega);rw[show bd s (i+1)-(bd s (i+1)-(bd s i+k))=bd s i+k by omega]at this;exact this
    have s0:Lib.runeStartB ((s.extract 0 (bd s (i+1))).data.toList.getD (bd s i) 0)=true:=by
     have:=abY 0 (by omega);simp only[Dt]at this;rw[this];exact Cz abv.1
    have sk:∀k,1<=k->k<(Utf8.decode s (bd s i)).2->Lib.runeStartB ((s.extract 0 (bd s (i+1))).data.toList.getD (bd s i+k) 0)=false:=fun k k1 k2=>by
     rw[abY k (by omega)];exact Bh fun hx=>hx (abv.2.2 k k1 k2)
    rcases hk with hk|hk|hk
    ·exact Lib.lastStart_at2 _ _ (by omega) s0
    ·exact Lib.lastStart_at3 _ _ (by omega) (sk 1 (by omega) (by omega)) s0
    ·exact Lib.lastStart_at4 _ _ (by omega) (sk 2 (by omega) (by omega)) (sk 1 (by omega) (by omega)) s0
   have F_:Utf8.decode (s.extract 0 (bd s (i+1))) st=Utf8.decode s (bd s i):=by
    have:=EH s 0 (bd s (i+1)) (bd s i) hp (by omega) (by rw[Bf];omega);rw[Bf]at this;rw[QC];exact this
   rw[F_,if_pos (by omega)]
theorem ael(cy:i<=j)(hj:j<=(aF s).length):∀(m k:Nat),j-k<=m->i<=k->k<=j->
 fN (s.extract (bd s i) (bd s j)) m (bd s k-bd s i)=((aF s).drop k|>.take (j-k)).map fun p=>(p.1-bd s i,p.2)
 |0,k,h,h1,h2=>by rw[show j-k=0 by omega];simp[fN]
 |m+1,k,h,h1,h2=>by
  have aP:(s.extract (bd s i) (bd s j)).size=bd s j-bd s i:=extract_size s _ _ (iQ s j);have m1:=fR s h1;unfold fN;by_cases hk:k<j
  ·have gy:k<(aF s).length:=(by omega);have aw:=zM (s:=s) hk gy;have pk:=sA gy;have hle:=fR s (show k+1<=j by omega)
   have F_:Utf8.decode (s.extract (bd s i) (bd s j)) (bd s k-bd s i)=Utf8.decode s (bd s k):=by
    have:=EH s (bd s i) (bd s j) (bd s k-bd s i) (iQ s j) (by omega) (by rw[show bd s i+(bd s k-bd s i)=bd s k by omega];omega);rw[show bd s i+(bd s k-bd s i)=bd s k by omega]at this;exact this
   rw[if_pos (by omega),F_,show bd s k-bd s i+(Utf8.decode s (bd s k)).2=bd s (k+1)-bd s i by omega,ael cy hj m (k+1) (by omega) (by omega) (by omega)];rw[Bj gy,show j-k=(j-(k+1))+1 by omega,D8,Bw];congr 1;rw[Cm];exact⟨by rw[<-zL gy],by rw[(Hq s).bl k gy,zL gy]⟩
  ·have:k=j:=(by omega);subst this;rw[if_neg (by omega),show k-k=0 by omega];simp
