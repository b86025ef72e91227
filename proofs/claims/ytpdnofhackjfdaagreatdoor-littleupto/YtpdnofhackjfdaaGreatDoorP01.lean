/- Words on memory -/
import Derived.Test.YtpdnofhackjfdaaGreatDoorP00
set_option linter.all false
set_option maxRecDepth 100000
set_option maxHeartbeats 2000000
namespace Go.Proofs.YtpdnofhackjfdaaGreatDoor
open Go.Proofs.Tryz
open Go.RowKit
variable {p:Addr} {cs:Array Value} {fo:Bool} {D:DataW Unit} {b:Nat} {S S':Nat->Prop} {t:TypeId} {a c w w':World}
structure aa(S:Nat->Prop)(w w':World):Prop where
 os:w'.os=w.os
 tape:w'.tape=w.tape
 output:w'.output=w.output
 size:w.heap.size<=w'.heap.size
 block:∀k,k<w.heap.size->¬S k->w'.heap[k]? =w.heap[k]?
def af:Nat->Prop:=fun _=>False
theorem aa.refl(S:Nat->Prop)(w:World):aa S w w:=⟨rfl,rfl,rfl,Ab _,fun _ _ _=>rfl⟩
theorem aa.trans{b:World}(h:aa S a b)(k:aa S b c):aa S a c:=
 ⟨k.os.trans h.os,k.tape.trans h.tape,k.output.trans h.output,Bb h.size k.size,fun i hi hs=>(k.block i (As hi h.size) hs).trans (h.block i hi hs)⟩
theorem aa.bZ{b:World}(h:aa S a b)(k:aa S' b c)(hs:∀i,i<a.heap.size->S' i->S i):aa S a c:=
 ⟨k.os.trans h.os,k.tape.trans h.tape,k.output.trans h.output,Bb h.size k.size,fun i hi hn=>(k.block i (As hi h.size) (fun h'=>hn (hs i hi h'))).trans (h.block i hi hn)⟩
theorem aa.mono(h:aa S w w')(hs:∀i,S i->S' i):aa S' w w':=
 ⟨h.os,h.tape,h.output,h.size,fun k hk hn=>h.block k hk (fun h'=>hn (hs k h'))⟩
theorem aa.drew(h:aa S a w):aa S a w.drew:=⟨h.os,h.tape,h.output,h.size,h.block⟩
theorem aa.drewN(h:aa S a w)(n:Nat):aa S a (w.drewN n):=⟨h.os,h.tape,h.output,h.size,h.block⟩
theorem aa.alloc(h:aa S a w)(o:Obj):aa S a (w.alloc o):=
 ⟨h.os,h.tape,h.output,by have:=h.size;simp;omega,fun k hk hs=>(Below.heap_alloc w o k (As hk h.size)).trans (h.block k hk hs)⟩
theorem aa.setCell(h:aa S a w)(hp:S p.block\/a.heap.size<=p.block)(u:Value):aa S a (w.setCell p u):=
 ⟨h.os,h.tape,h.output,by have:=h.size;simp[World.setCell];omega,fun k hk hs=>(Ct w p u k (by
   intro e;subst e;rcases hp with hp|hp
   ·exact hs hp
   ·omega)).trans (h.block k hk hs)⟩
theorem aa.eQ{row:Option Nat}(h:aa S a w)(hg:w.grownBy w' row)(hr:∀k,row=some k->S k\/a.heap.size<=k):aa S a w':=
 ⟨hg.os.trans h.os,hg.tape.trans h.tape,hg.output.trans h.output,Bb h.size hg.size,fun k hk hs=>(hg.block k (As hk h.size) (fun e=>by
   rcases hr k e.symm with hp|hp
   ·exact hs hp
   ·omega)).trans (h.block k hk hs)⟩
theorem aa.below(h:aa S w w'){B:Nat}(hB:B<=w.heap.size)(hs:∀k,k<B->¬S k):Below B w w':=
 ⟨h.os,h.tape,h.output,h.size,fun k hk=>h.block k (As hk hB) (hs k hk)⟩
theorem aa.cell(h:aa S w w')(hp:p.block<w.heap.size)(hs:¬S p.block):w'.cell? p=w.cell? p:=Bz (w:=w) (h.block p.block hp hs)
theorem aa.frozen(h:aa S w w')(hp:p.block<w.heap.size)(hs:¬S p.block):w'.frozen? p=w.frozen? p:=World.frozen?_of_block (w:=w) (h.block p.block hp hs)
def aq(w:World)(b:Nat)(cs:Array Value)(t:TypeId):Prop:=w.heap[b]? =some (.cells cs t (0,0))
theorem aq.lt(h:aq w b cs t):b<w.heap.size:=by
 unfold aq at h;exact(Am.1 h).1
theorem aq.cell(h:aq w b cs t)(i:Nat):w.cell? ⟨b,i,none⟩=cs[i]? :=by
 unfold aq at h;simp[World.cell?,h]
theorem aq.frozen(h:aq w b cs t)(i:Nat):w.frozen? ⟨b,i,none⟩=false:=by
 unfold aq at h;simp[World.frozen?,h]
theorem aq.kept(h:aq w b cs t)(k:aa S w w')(hs:¬S b):aq w' b cs t:=(k.block b h.lt hs).trans h
theorem aq.setCell(h:aq w b cs t)(i:Nat)(v:Value):aq (w.setCell ⟨b,i,none⟩ v) b (cs.setIfInBounds i v) t:=by
 unfold aq at*;have hb:=(Am.1 h).1;simp only[World.setCell,Ek];simp[h]
theorem aq.y9(h:aq w b cs t)(hp:b≠p.block)(v:Value):aq (w.setCell p v) b cs t:=(Ct w p v b hp).trans h
theorem aq.alloc(h:aq w b cs t)(o:Obj):aq (w.alloc o) b cs t:=(Below.heap_alloc w o b h.lt).trans h
theorem aq.new(w:World)(cs:Array Value)(t:TypeId):aq (w.alloc (.cells cs t (0,0))) w.heap.size cs t:=by
 show(w.heap.push _)[w.heap.size]? =_
 simp
theorem aq.drew(h:aq w b cs t):aq w.drew b cs t:=h
def aG(l:List UInt8)(r:Int):Bool:=l.any fun b=>(b.toNat:Int)==r
theorem ajX(s:ByteArray)(c:Int)(w:World):
 Calls prog 191 #[.string s,.int .u8 c] w fun e w'=>e=.returned (.int .i64 (Lib.indexByte s.data.toList c.toNat.toUInt8))/\w'=w:=by
 go_in
 go_wp2
 rw[run_callFunc_extern func201 (by kernel_rfl) (by kernel_rfl) (by kernel_rfl) (e:=Extern.BytealgIndexByte.indexByte) (by kernel_rfl),Lib.run_indexByteString];simp only[Result.andThen];rw[Oper.upon_value];go_wp2;go_ret;exact⟨rfl,rfl⟩
theorem aca(s:ByteArray)(c:Int)(w:World):
 Calls prog 180 #[.string s,.int .u8 c] w fun e w'=>e=.returned (.int .i64 (Lib.indexByte s.data.toList c.toNat.toUInt8))/\w'=w:=by
 go_in
 go_wp2_with (go_at_call 191;refine(ajX _ _ _).mono ?_;rintro e w' ⟨rfl,rfl⟩)
 go_ret
 exact⟨rfl,rfl⟩
def zm(r:Int):Bool:=decide ((0<=r/\r<55296)\/(57343<r/\r<=1114111))
theorem XI(r:Int)(w:World):Calls prog 181 #[.int .i32 r] w fun e w'=>e=.returned (.bool (zm r))/\w'=w:=by
 go_in
 go_wp2
 all_goals go_ret
 all_goals refine⟨?_,rfl⟩
 all_goals(congr 2;simp[zm];omega)
theorem ajU(l:List UInt8)(r:Int)(h0:0<=r)(h1:r<128):(decide (0<=Lib.indexByte l r.toNat.toUInt8))=aG l r:=by
 induction l with
 |nil=>simp[Lib.indexByte,aG]
 |cons b l ih=>
  have ia:=Lib.indexByte_ge l r.toNat.toUInt8
  have hc:(b==r.toNat.toUInt8)=((b.toNat:Int)==r):=by
   have hb:=b.toNat_lt;rw[Be];simp only[Gi];constructor
   ·intro e;rw[e];simp;omega
   ·intro e;apply UInt8.toNat.inj;simp;omega
  have hi:aG (b::l) r=(((b.toNat:Int)==r)||aG l r):=by simp[aG]
  rw[hi,<-ih,<-hc];have hu:Lib.indexByte (b::l) r.toNat.toUInt8=if b==r.toNat.toUInt8 then 0 else if Lib.indexByte l r.toNat.toUInt8== -1 then-1 else Lib.indexByte l r.toNat.toUInt8+1:=rfl
  rw[hu];generalize Lib.indexByte l r.toNat.toUInt8=x at*
  cases hb:(b==r.toNat.toUInt8)
  ·by_cases hx:x= -1
   ·simp[hx]
   ·simp[hx];omega
  ·simp
theorem ajY(s:ByteArray)(r:Int)(w:World)(h0:0<=r)(h1:r<128):
 Calls prog 161 #[.string s,.int .i32 r] w fun e w'=>e=.returned (.int .i64 (Lib.indexByte s.data.toList r.toNat.toUInt8))/\w'=w:=by
 go_in
 go_wp2_with (go_at_call 180;refine(aca _ _ _).mono ?_;rintro e w' ⟨rfl,rfl⟩)
 go_ret
 exact⟨rfl,rfl⟩
theorem ajZ(s:ByteArray)(r:Int)(w:World)(hv:zm r=false):
 Calls prog 161 #[.string s,.int .i32 r] w fun e w'=>e=.returned (.int .i64 (-1))/\w'=w:=by
 have hr:r<0\/55296<=r:=by simp[zm]at hv;omega
 have az:(r==65533)=false:=by simp[zm]at hv;simp;omega
 rcases hr with hr|hr
 ·go_in
  go_wp2_with (go_at_call 181;refine(XI _ _).mono ?_;rintro e w' ⟨rfl,rfl⟩)
  go_ret
  exact⟨rfl,rfl⟩
 ·go_in
  go_wp2_with (go_at_call 181;refine(XI _ _).mono ?_;rintro e w' ⟨rfl,rfl⟩)
  go_ret
  exact⟨rfl,rfl⟩
theorem aj0(s:ByteArray)(w:World)(hs:∀b∈s.data.toList,b.toNat<128):
 Calls prog 161 #[.string s,.int .i32 65533] w fun e w'=>e=.returned (.int .i64 (-1))/\aa af w w':=by
 go_in
 go_wp2_with fail
 go_loopw [5] (fun _ wr=>∃k:Nat,k<=s.size/\wr=w.iter s k) (fun _ wr=>s.size-wr.iterPos w.heap.size)
 case atStart=>exact⟨0,Ao _,rfl⟩
 case round=>
  obtain⟨k,hk,rfl⟩:=hrel;by_cases aw:k<s.size
  ·have hb:=hs s[k] (by exact Array.getElem_mem_toList (xs:=s.data) aw);have hn:=(fun ty=>run_next_ascii (P:=prog) w s k ty aw hb);have az:(((s[k]).toNat:Int)==65533)=false:=by simp;omega
   go_wp2_with fail
   go_roundw
   case rel=>exact⟨k+1,by omega,rfl⟩
   case measure=>simp;omega
  ·have hn:=(fun ty=>run_next_end (P:=prog) w s k ty aw);go_wp2_with fail;go_ret;exact⟨rfl,(aa.refl _ _).alloc _⟩
theorem ajW(l:List UInt8)(c:UInt8)(h:∀b∈l,b.toNat<128)(hc:128<=c.toNat):Lib.indexByte l c<0:=by
 induction l with
 |nil=>simp[Lib.indexByte]
 |cons b l ih=>
  have hb:=h b (by simp)
  have az:(b==c)=false:=by
   cases hx:(b==c)
   ·rfl
   ·have:=Gi.1 hx;rw[this]at hb;omega
  have i:=ih (fun x hx=>h x (by simp[hx]));have hu:Lib.indexByte (b::l) c=if b==c then 0 else if Lib.indexByte l c== -1 then-1 else Lib.indexByte l c+1:=rfl
  have ia:=Lib.indexByte_ge l c;have e:Lib.indexByte l c= -1:=by omega
  rw[hu,az,e];simp
theorem aj1(s:ByteArray)(r:Int)(w:World)(hs:∀b∈s.data.toList,b.toNat<128)(hv:zm r=true)(h:128<=r)(az:(r==65533)=false):
 Calls prog 161 #[.string s,.int .i32 r] w fun e w'=>e=.returned (.int .i64 (-1))/\aa af w w':=by
 have QG:Utf8.valid r=true:=by simp[zm]at hv;simp[Utf8.valid];omega
 obtain⟨e2,e4,el⟩:=encode_facts r QG h;have ub:=el (by omega);have aw:((Utf8.encode r).size:Int)-1<((Utf8.encode r).size:Int):=by omega
 clear QG;go_in;go_wp2_with (go_at_call 181;refine(XI _ _).mono ?_;rintro e w' ⟨rfl,rfl⟩);go_step3;go_wp2_with fail;refine wp_loop_rounds 1 ?_;rw[rounds_succ];by_cases aP:((Utf8.encode r).size:Int)-1<(s.size:Int)
 ·go_wp2_with fail
  go_step3
  go_wp2_with fail
  have hE1:0<=((Utf8.encode r).size:Int)-1:=by omega
  have hL:(Utf8.encode r).size-1<(Utf8.encode r).size:=by omega
  have hE2:(1:Int)<=((Utf8.encode r).size:Int):=by omega
  have hS:(Utf8.encode r).size-1<s.size:=by omega
  have Jl:=hs (s[(Utf8.encode r).size-1]) (by exact Array.getElem_mem_toList (xs:=s.data) hS);have hN:(((Utf8.encode r).size:Int)-1).toNat=(Utf8.encode r).size-1:=by omega
  go_region
  all_goals go_wp2_with fail
  have BU:IntKind.i64.wrap ((Utf8.encode r).size:Int)=((Utf8.encode r).size:Int):=wrap_small _ (by omega) (by omega);have kR:(Utf8.encode r).size<=s.size:=by omega
  obtain⟨w2,pS⟩:∃w2,w2=w'.drew:=⟨_,rfl⟩
  have aN:aa af w' w2:=by rw[pS];exact(aa.refl _ _).drew
  rw[<-pS];clear pS;go_quiet ((go_at_call 180;go_must (exact Ar (aca _ _ _))))
  have aiU:Lib.indexByte (List.take (s.size-(Utf8.encode r).size) (List.drop (Utf8.encode r).size s.data.toList)) (Utf8.encode r)[(Utf8.encode r).size-1]<0:=
   ajW _ _ (fun b hb=>hs b (Dz (Cf hb))) ub
  go_wp2_with fail
  rw[Exit.noGoto_ret];go_wp2_with fail;rw[Exit.noGoto_ret];go_wp2_with fail;go_ret;exact⟨rfl,aN.drewN _⟩
 ·go_wp2_with fail
  go_ret
  exact⟨rfl,aa.refl _ _⟩
theorem ag6(s:ByteArray)(r:Int)(w:World)(hs:∀b∈s.data.toList,b.toNat<128):
 Calls prog 129 #[.string s,.int .i32 r] w fun e w'=>e=.returned (.bool (aG s.data.toList r))/\aa af w w':=by
 have key:∃i:Int,decide (0<=i)=aG s.data.toList r/\Calls prog 161 #[.string s,.int .i32 r] w fun e w'=>e=.returned (.int .i64 i)/\aa af w w':=by
  have ajz:¬(0<=r/\r<128)->aG s.data.toList r=false:=by
   intro hr;unfold aG;rw[List.any_eq_false];intro b hb;have:=hs b hb;simp;omega
  by_cases h1:0<=r/\r<128
  ·exact⟨_,ajU _ _ h1.1 h1.2,(ajY s r w h1.1 h1.2).mono fun e w' ⟨he,hw⟩=>⟨he,hw▸aa.refl _ _⟩⟩
  ·refine⟨-1,by rw[ajz h1];decide,?_⟩
   cases hv:zm r
   ·exact(ajZ s r w hv).mono fun e w' ⟨he,hw⟩=>⟨he,hw▸aa.refl _ _⟩
   ·have h0:128<=r:=by simp[zm]at hv;omega
    by_cases he:r=65533
    ·subst he;exact aj0 s w hs
    ·exact aj1 s r w hs hv h0 (by simp[he])
 obtain⟨i,hi,hc⟩:=key;go_in;go_wp2_with (go_at_call 161;refine hc.mono ?_;rintro e w' ⟨rfl,hk⟩);go_ret;exact⟨rfl,by assumption⟩
theorem aiG(s p:ByteArray)(w:World):
 Calls prog 55 #[.string s,.string p] w fun e w'=>e=.returned (.bool (Lib.hasPrefix s.data.toList p.data.toList))/\aa af w w':=by
 rw[<-Lib.hasPrefix_of_take,<-E0,<-E0];go_in;go_wp2
 ·rename_i h
  go_ret
  refine⟨?_,aa.refl _ _⟩;show Ending.returned (Value.bool ((s.extract 0 p.size).toList==p.toList))=_
  rw[Lib.extract_toList,Lib.toList_data];simp[h]
 ·rename_i h
  go_ret
  refine⟨?_,aa.refl _ _⟩;show Ending.returned (Value.bool false)=_
  simp[h]
open Go.Maps
structure cQ where
 bl:Option Int
 form:Option Int
 rep:Option Int
 cls:Option Int
 CJ:Option Int
 u6:Option Int
def cQ.get(f:cQ)(e:Int):Option Int:=
 if e=2 then f.bl else if e=3 then f.form else if e=4 then f.rep else if e=5 then f.cls else if e=6 then f.CJ else if e=7 then f.u6 else none
def cQ.put(f:cQ)(e:Int)(p:Int):cQ:=
 if e=2 then{f with bl:=some p}else if e=3 then{f with form:=some p}else if e=4 then{f with rep:=some p}else if e=5 then{f with cls:=some p}
 else if e=6 then{f with CJ:=some p}else if e=7 then{f with u6:=some p}else f
def cQ.eo(f:cQ)(e:Int)(p:Int):cQ:=if(f.get e).isSome then f else f.put e p
def yP(o:Option Int):Nat:=if o.isSome then 1 else 0
def cQ.u_(f:cQ):Nat:=yP f.bl+yP f.form+yP f.rep+yP f.cls+yP f.CJ+yP f.u6
theorem JK(o:Option Int):yP o<=1:=by unfold yP;split<;>omega
theorem cQ.aaf(f:cQ):f.u_<=6:=by
 have:=JK f.bl;have:=JK f.form;have:=JK f.rep;have:=JK f.cls;have:=JK f.CJ;have:=JK f.u6;unfold cQ.u_;omega
theorem cQ.aa5(f:cQ)(e e' p:Int)(h:2<=e/\e<=7):(f.put e p).get e'=if e'=e then some p else f.get e':=by
 have:e=2\/e=3\/e=4\/e=5\/e=6\/e=7:=by omega
 rcases this with rfl|rfl|rfl|rfl|rfl|rfl<;>simp[cQ.put,cQ.get]<;>(repeat' split)<;>first|rfl|omega|simp_all
theorem cQ.TE(f:cQ)(e p:Int)(h:2<=e/\e<=7)(hn:(f.get e).isSome=false):(f.put e p).u_=f.u_+1:=by
 have:e=2\/e=3\/e=4\/e=5\/e=6\/e=7:=by omega
 rcases this with rfl|rfl|rfl|rfl|rfl|rfl<;>simp[cQ.get]at hn<;>simp[cQ.put,cQ.u_,yP,hn]<;>omega
structure wo(D:DataW Unit)(F:cQ):Prop where
 isMap:IsMap D
 has:∀e,Maps.has D (.int .i64 e)=(F.get e).isSome
 val:∀e p,F.get e=some p->D.atKey (.int .i64 e) (.lit (.int .i64 0))=.lit (.int .i64 p)
 size:Maps.size D=F.u_
structure Is(D:DataW Unit)(l:List (List UInt8×Nat)):Prop where
 isMap:IsMap D
 has:∀s,Maps.has D (.string s)=l.any (fun p=>p.1==s)
 val:∀s k,(s,k) ∈l->D.atKey (.string s) (.lit (.int .i64 0))=.lit (.int .i64 k)
 size:Maps.size D=l.length
theorem acf(e:Int):WideAt.IsKeyLit (.int .i64 e):=by simp[WideAt.IsKeyLit]
theorem acg(s:List UInt8):WideAt.IsKeyLit (.string s):=by simp[WideAt.IsKeyLit]
theorem wo.put{F:cQ}(h:wo D F)(ht:Tidy D)(e p:Int)(he:2<=e/\e<=7)(hn:(F.get e).isSome=false):wo (D.put (.int .i64 e) (.lit (.int .i64 p))) (F.put e p) where
 isMap:=h.isMap.put _ _
 has e':=by
  rw[cQ.aa5 F e e' p he];by_cases x:e'=e
  ·subst x;simp[has_put_same h.isMap (acf _)]
  ·rw[has_put_other (by simpa using x),h.has];simp[x]
 val e' q hq:=by
  rw[cQ.aa5 F e e' p he]at hq;by_cases x:e'=e
  ·subst x;simp at hq;subst hq;exact atKey_put_same h.isMap (acf _) _ _
  ·rw[if_neg x]at hq;rw[atKey_put_other (by simpa using x)];exact h.val e' q hq
 size:=by
  rw[Maps.size_put ht,h.has,hn,if_neg (by simp),h.size,cQ.TE F e p he hn]
theorem Is.put{l:List (List UInt8×Nat)}(h:Is D l)(ht:Tidy D)(s:List UInt8)(k:Nat)(hn:l.any (fun p=>p.1==s)=false):Is (D.put (.string s) (.lit (.int .i64 k))) ((s,k)::l) where
 isMap:=h.isMap.put _ _
 has s':=by
  by_cases x:s'=s
  ·subst x;simp[has_put_same h.isMap (acg _)]
  ·rw[has_put_other (by simpa using x),h.has];have:(s==s')=false:=by simp;exact fun e=>x e.symm
   simp[this]
 val s' q hq:=by
  by_cases x:s'=s
  ·subst x;rcases Cg.1 hq with hq|hq
   ·cases hq;exact atKey_put_same h.isMap (acg _) _ _
   ·exfalso
    have:=List.any_eq_false.1 hn _ hq;simp at this
  ·rw[atKey_put_other (by simpa using x)];rcases Cg.1 hq with hq|hq
   ·cases hq;exact absurd rfl x
   ·exact h.val s' q hq
 size:=by
  rw[Maps.size_put ht,h.has,hn,if_neg (by simp),h.size];simp
structure RG where
 b:Nat
 ao:Option Addr
 br:Nat
 cr:Nat
 bp:Nat
 cp:Nat
 bf:Nat
 bn:Nat
 rs:List Int
 ps:List Int
structure RS where
 next:Nat
 bm:cQ
 aR:Nat
 names:List (List UInt8×Nat)
def RG.au(g:RG):Nat->Prop:=fun k=>k=g.b\/k=g.bf\/k=g.bn
def RG.use(g:RG):Nat->Prop:=fun k=>k=g.b\/k=g.bf\/k=g.bn\/k=g.br\/k=g.bp
def agJ(g:RG)(fo:Bool)(st:RS):Array Value:=
 #[.slice g.ao g.rs.length g.cr,.slice (some ⟨g.bp,0,none⟩) (g.rs.length+1) g.cp,.int .i64 st.next,.map (some g.bf),.bool fo,.int .i64 st.aR,.map (some g.bn)]
structure aS(w:World)(g:RG)(fo:Bool)(st:RS):Prop where
 aj:aq w g.b (agJ g fo st) 99
 isSome:0<g.rs.length->g.ao=some ⟨g.br,0,none⟩
 gF:∀i,i<g.rs.length->w.cell? ⟨g.br,i,none⟩=some (.int .i32 (g.rs.getD i 0))
 places:∀i,i<g.rs.length+1->w.cell? ⟨g.bp,i,none⟩=some (.int .i64 (g.ps.getD i 0))
 og:g.br<w.heap.size
 oe:g.bp<w.heap.size
 nc:∀i,0<=g.ps.getD i 0/\g.ps.getD i 0<=300
 qR:∀r∈g.rs,0<=r/\r<=1114111
 fm:∃D,w.ownsMap prog 25 (plainElem (H:=Unit) prog 3) g.bf (Maps.size D) D/\wo D st.bm
 nm:∃D,w.ownsMap prog 9 (plainElem (H:=Unit) prog 3) g.bn (Maps.size D) D/\Is D st.names
 len:g.rs.length<=300
 nD:g.rs.length<=g.cr
 next:st.next<=g.rs.length
 aR:st.aR<=st.next
 names:st.names.length<=st.aR
 apart:g.b≠g.br/\g.b≠g.bp/\g.b≠g.bf/\g.b≠g.bn/\g.bf≠g.br/\g.bf≠g.bp/\g.bf≠g.bn/\g.bn≠g.br/\g.bn≠g.bp
theorem jK{k:TypeId}{R:Value->Option (DataW Unit×List MemPlace)}{n:Nat}(h:w.ownsMap prog k R b n D)(hk:aa S w w')(hs:¬S b):w'.ownsMap prog k R b n D:=by
 have aw:=h.lt;obtain⟨es,clock,hb,r⟩:=h;exact⟨es,clock,(hk.block b aw hs).trans hb,r⟩
theorem aS.O5{g:RG}{st:RS}(h:aS w g fo st):g.b<w.heap.size:=h.aj.lt
theorem aS.kept{g:RG}{st:RS}(h:aS w g fo st)(k:aa S w w')(hs:∀i,g.use i->¬S i):aS w' g fo st where
 aj:=h.aj.kept k (hs _ (by simp[RG.use]))
 isSome:=h.isSome
 gF i hi:=(k.cell (p:=⟨g.br,i,none⟩) h.og (hs _ (by simp[RG.use]))).trans (h.gF i hi)
 places i hi:=(k.cell (p:=⟨g.bp,i,none⟩) h.oe (hs _ (by simp[RG.use]))).trans (h.places i hi)
 og:=As h.og k.size
 oe:=As h.oe k.size
 nc:=h.nc
 qR:=h.qR
 fm:=by obtain⟨D,hD,hF⟩:=h.fm;exact⟨D,jK hD k (hs _ (by simp[RG.use])),hF⟩
 nm:=by obtain⟨D,hD,hF⟩:=h.nm;exact⟨D,jK hD k (hs _ (by simp[RG.use])),hF⟩
 len:=h.len
 nD:=h.nD
 next:=h.next
 aR:=h.aR
 names:=h.names
 apart:=h.apart
theorem aS.nil{g:RG}{st:RS}(h:aS w g fo st)(k:aa af w w'):aS w' g fo st:=h.kept k (fun _ _ hx=>hx)
theorem aS.Rz{g:RG}{st:RS}(h:aS w g fo st)(m:Nat)(hm:m<=g.rs.length)(hg:st.aR<=m):aS (w.setCell ⟨g.b,2,none⟩ (.int .i64 m)) g fo {st with next:=m} where
 aj:=h.aj.setCell 2 _
 isSome:=h.isSome
 gF i hi:=by
  rw[Bz (w:=w) (Ct w _ _ g.br (fun e=>h.apart.1 e.symm))];exact h.gF i hi
 places i hi:=by
  rw[Bz (w:=w) (Ct w _ _ g.bp (fun e=>h.apart.2.1 e.symm))];exact h.places i hi
 og:=by have:=h.og;simpa[World.setCell]using this
 oe:=by have:=h.oe;simpa[World.setCell]using this
 nc:=h.nc
 qR:=h.qR
 fm:=by obtain⟨D,hD,hF⟩:=h.fm;exact⟨D,hD.setCell (a:=⟨g.b,2,none⟩) (fun e=>h.apart.2.2.1 e.symm) _,hF⟩
 nm:=by obtain⟨D,hD,hF⟩:=h.nm;exact⟨D,hD.setCell (a:=⟨g.b,2,none⟩) (fun e=>h.apart.2.2.2.1 e.symm) _,hF⟩
 len:=h.len
 nD:=h.nD
 next:=hm
 aR:=hg
 names:=h.names
 apart:=h.apart
theorem aS.Xl{g:RG}{st:RS}(h:aS w g fo st)(f2:Bool):aS (w.setCell ⟨g.b,4,none⟩ (.bool f2)) g f2 st where
 aj:=h.aj.setCell 4 _
 isSome:=h.isSome
 gF i hi:=by
  rw[Bz (w:=w) (Ct w _ _ g.br (fun e=>h.apart.1 e.symm))];exact h.gF i hi
 places i hi:=by
  rw[Bz (w:=w) (Ct w _ _ g.bp (fun e=>h.apart.2.1 e.symm))];exact h.places i hi
 og:=by have:=h.og;simpa[World.setCell]using this
 oe:=by have:=h.oe;simpa[World.setCell]using this
 nc:=h.nc
 qR:=h.qR
 fm:=by obtain⟨D,hD,hF⟩:=h.fm;exact⟨D,hD.setCell (a:=⟨g.b,4,none⟩) (fun e=>h.apart.2.2.1 e.symm) _,hF⟩
 nm:=by obtain⟨D,hD,hF⟩:=h.nm;exact⟨D,hD.setCell (a:=⟨g.b,4,none⟩) (fun e=>h.apart.2.2.2.1 e.symm) _,hF⟩
 len:=h.len
 nD:=h.nD
 next:=h.next
 aR:=h.aR
 names:=h.names
 apart:=h.apart
theorem yT(g:RG)(i:Nat)(v:Value):aa g.au w (w.setCell ⟨g.b,i,none⟩ v):=(aa.refl _ _).setCell (Or.inl (by simp[RG.au])) v
theorem ad0{g:RG}{st:RS}(h:aS w g fo st):
 Calls prog 84 #[.pointer (some ⟨g.b,0,none⟩)] w fun e w'=>e=.returned (.int .i64 (g.ps.getD st.next 0))/\aa af w w':=by
 have c1:w.cell? ⟨g.b,1,none⟩=some (.slice (some ⟨g.bp,0,none⟩) (g.rs.length+1) g.cp):=h.aj.cell 1;have c2:w.cell? ⟨g.b,2,none⟩=some (.int .i64 st.next):=h.aj.cell 2;have hn:=h.next
 have hl:=h.len;have cp:=h.places st.next (by omega)
 have aw:st.next<g.rs.length+1:=by omega
 clear h;go_in;go_wp2;go_region;all_goals go_wp2
 all_goals go_ret
 all_goals exact⟨rfl,(aa.refl _ _).drew⟩
def ay(g:RG)(st:RS):Int:=g.rs.getD st.next (-1)
theorem NB{g:RG}{st:RS}(h:aS w g fo st):
 Calls prog 57 #[.pointer (some ⟨g.b,0,none⟩)] w fun e w'=>e=.returned (.int .i32 (ay g st))/\aa af w w':=by
 have c0:w.cell? ⟨g.b,0,none⟩=some (.slice g.ao g.rs.length g.cr):=h.aj.cell 0;have c2:w.cell? ⟨g.b,2,none⟩=some (.int .i64 st.next):=h.aj.cell 2;have hn:=h.next
 have hl:=h.len;by_cases aw:st.next<g.rs.length
 ·have mj:=h.isSome (by omega);rw[mj]at c0;have cp:=h.gF st.next aw
  have az:((st.next:Int)==(g.rs.length:Int))=false:=by simp;omega
  have hs:g.rs.getD st.next 0=ay g st:=by simp[ay,List.getD,Ae aw]
  rw[hs]at cp;clear h mj hs;go_in;go_wp2;go_region;all_goals go_wp2
  all_goals go_region
  all_goals go_wp2
  all_goals go_ret
  all_goals exact⟨rfl,(aa.refl _ _).drew.drew⟩
 ·have az:((st.next:Int)==(g.rs.length:Int))=true:=by simp;omega
  have hs:ay g st= -1:=by simp[ay,List.getD,Cj (by omega:g.rs.length<=st.next)]
  rw[hs];clear h hs;go_in;go_wp2;go_region;all_goals go_wp2
  all_goals go_ret
  all_goals exact⟨rfl,(aa.refl _ _).drew⟩
theorem aS.JS{g:RG}{st:RS}(h:aS w g fo st)(k_:RS): -1<=ay g k_/\ay g k_<=1114111:=by
 unfold ay;by_cases hl:k_.next<g.rs.length
 ·have e:g.rs.getD k_.next (-1)=g.rs[k_.next]:=by simp[List.getD,Ae hl]
  have:=h.qR _ (A5 hl);rw[e];omega
 ·have e:g.rs.getD k_.next (-1)= -1:=by simp[List.getD,Cj (by omega:g.rs.length<=k_.next)]
  rw[e];omega
theorem j0{g:RG}{st:RS}{l:List UInt8}(h:aG l (ay g st)=true):st.next<g.rs.length:=by
 apply Dv
 intro hn;have:ay g st= -1:=by simp[ay,List.getD,Cj (by omega:g.rs.length<=st.next)]
 rw[this]at h;unfold aG at h;obtain⟨b,_,hb⟩:=Cq.1 h;have:=Gi.1 hb;omega
theorem NC{g:RG}{st:RS}(h:aS w g fo st)(s:ByteArray)(hs:∀b∈s.data.toList,b.toNat<128):
 Calls prog 107 #[.pointer (some ⟨g.b,0,none⟩),.string s] w fun e w'=>e=.returned (.bool (aG s.data.toList (ay g st)))/\aa af w w':=by
 go_in
 go_wp2_with (first|(go_at_call 57;refine(NB h).mono ?_;rintro e w1 ⟨rfl,aU⟩)|(go_at_call 129;refine(ag6 _ _ _ hs).mono ?_;rintro e w2 ⟨rfl,aN⟩))
 go_ret
 exact⟨rfl,aa.trans (by assumption) (by assumption)⟩
def fq(g:RG)(l:List UInt8)(st:RS):RS:=if aG l (ay g st)then{st with next:=st.next+1}else st
theorem XE{g:RG}{st:RS}(h:aS w g fo st)(s:ByteArray)(hs:∀b∈s.data.toList,b.toNat<128)(hy:aG s.data.toList (ay g st)=true):
 Calls prog 83 #[.pointer (some ⟨g.b,0,none⟩),.string s] w fun e w'=>e=.returned (.bool true)/\aS w' g fo {st with next:=st.next+1}/\aa g.au w w':=by
 have aw:=j0 hy;have hl:=h.len;go_in;go_wp2_with fail;refine(NC h s hs).mono ?_;rintro e w1 ⟨rfl,aU⟩;have h1:=h.nil aU;have c2:w1.cell? ⟨g.b,2,none⟩=some (.int .i64 st.next):=h1.aj.cell 2;have f2:=h1.aj.frozen 2;rw[hy];go_wp2_with fail;go_ret;refine⟨rfl,?_,(aU.mono (fun _ hx=>hx.elim)).trans (yT g 2 _)⟩;have:=h1.Rz (st.next+1) (by omega) (by have:=h.aR;omega);simpa using this
theorem XD{g:RG}{st:RS}(h:aS w g fo st)(s:ByteArray)(hs:∀b∈s.data.toList,b.toNat<128)(hy:aG s.data.toList (ay g st)=false):
 Calls prog 83 #[.pointer (some ⟨g.b,0,none⟩),.string s] w fun e w'=>e=.returned (.bool false)/\aS w' g fo st/\aa g.au w w':=by
 go_in
 go_wp2_with fail
 refine(NC h s hs).mono ?_;rintro e w1 ⟨rfl,aU⟩;rw[hy];go_wp2_with fail;go_ret;exact⟨rfl,h.nil aU,aU.mono (fun _ hx=>hx.elim)⟩
theorem aoL{g:RG}{st:RS}(h:aS w g fo st)(s:ByteArray)(hs:∀b∈s.data.toList,b.toNat<128):
 Calls prog 83 #[.pointer (some ⟨g.b,0,none⟩),.string s] w fun e w'=>e=.returned (.bool (aG s.data.toList (ay g st)))/\aS w' g fo (fq g s.data.toList st)/\aa g.au w w':=by
 unfold fq
 cases hy:aG s.data.toList (ay g st)
 ·exact XD h s hs hy
 ·exact XE h s hs hy
theorem xL(w:World):(zeroValue 3).run prog w=.ok (.int .i64 0) w:=by kernel_rfl
theorem xt:Keyed prog 25:=int_keyed underlying25
theorem rQ:Keyed prog 9:=string_keyed underlying9
def RS.eo(st:RS)(e p:Int):RS:={st with bm:=st.bm.eo e p}
theorem aS.Ww{g:RG}{st:RS}(h:aS w g fo st)(F:cQ)(hD:w'.ownsMap prog 25 (plainElem (H:=Unit) prog 3) g.bf (Maps.size D) D)(hF:wo D F)
 (k:aa (fun i=>i=g.bf) w w'):aS w' g fo {st with bm:=F} where
 aj:=h.aj.kept k (fun e=>h.apart.2.2.1 e)
 isSome:=h.isSome
 gF i hi:=(k.cell (p:=⟨g.br,i,none⟩) h.og (fun e=>h.apart.2.2.2.2.1 e.symm)).trans (h.gF i hi)
 places i hi:=(k.cell (p:=⟨g.bp,i,none⟩) h.oe (fun e=>h.apart.2.2.2.2.2.1 e.symm)).trans (h.places i hi)
 og:=As h.og k.size
 oe:=As h.oe k.size
 nc:=h.nc
 qR:=h.qR
 fm:=⟨D,hD,hF⟩
 nm:=by obtain⟨D,hD,hF⟩:=h.nm;exact⟨D,jK hD k (fun e=>h.apart.2.2.2.2.2.2.1 e.symm),hF⟩
 len:=h.len
 nD:=h.nD
 next:=h.next
 aR:=h.aR
 names:=h.names
 apart:=h.apart
theorem He{g:RG}{st:RS}(h:aS w g fo st)(e p:Int)(he:2<=e/\e<=7)(hp:0<=p/\p<=300):
 Calls prog 40 #[.pointer (some ⟨g.b,0,none⟩),.int .i64 e,.int .i64 p] w fun en w'=>en=.returned (.tuple #[])/\aS w' g fo (st.eo e p)/\aa g.au w w':=by
 have c3:w.cell? ⟨g.b,3,none⟩=some (.map (some g.bf)):=h.aj.cell 3;obtain⟨D,hD,hF⟩:=h.fm;have jk:keyOf prog 25 (.int .i64 e)=some (.int .i64 e):=keyOf_int_mk underlying25 (Dd (by omega));have aP:Maps.size D<maxLen:=by rw[hF.size];have:=st.bm.aaf;unfold maxLen;omega
 go_in
 go_wp2_with (first|(at_lookup;refine Bu _ rfl _ _ 97 rfl 25 3 .i64 xt underlying97 underlying3 (xL _) g.bf _ D rfl hD _ _ rfl jk ?_;intro c iV yE)|(at_mapUpdate;refine Eq _ rfl _ _ _ 97 rfl 25 3 xt underlying97 _ g.bf _ _ rfl hD aP _ _ _ rfl rfl jk _ [] (plainElem_int underlying3 (Dd (by omega))) ?_;intro w1 ajA aiZ))
 ·have lR:has D (.int .i64 e)=false:=by have:(!has D (.int .i64 e))=true:=by assumption
                                        simpa using this
  rw[hF.has]at lR;have hF':=hF.put (hD.tidy xt) e p he lR;go_end0;refine⟨rfl,?_,?_⟩
  ·have hn:st.eo e p={st with bm:=st.bm.put e p}:=(by simp[RS.eo,cQ.eo,lR]);rw[hn];refine h.Ww (D:=D.put (.int .i64 e) (.lit (.int .i64 p))) _ ?_ hF' ((aa.refl _ _).eQ (by assumption) (fun k hk=>Or.inl (by cases hk;rfl)));have e1:Maps.size (D.put (.int .i64 e) (.lit (.int .i64 p)))=Maps.size D+1:=(by rw[hF'.size,hF.size,cQ.TE _ _ _ he lR]);rw[e1];assumption
  ·exact(aa.refl _ _).eQ (by assumption) (fun k hk=>Or.inl (by cases hk;simp[RG.au]))
 ·have MM:has D (.int .i64 e)=true:=by have:(!has D (.int .i64 e))=false:=by assumption
                                       simpa using this
  rw[hF.has]at MM;go_end0;refine⟨rfl,?_,aa.refl _ _⟩;have hn:st.eo e p=st:=by simp[RS.eo,cQ.eo,MM]
  rw[hn];exact h
theorem aS.named{g:RG}{st:RS}(h:aS w g fo st)(l:List (List UInt8×Nat))(hD:w'.ownsMap prog 9 (plainElem (H:=Unit) prog 3) g.bn (Maps.size D) D)(hF:Is D l)
 (k:aa (fun i=>i=g.bn) w w')(hn:l.length<=st.aR):aS w' g fo {st with names:=l} where
 aj:=h.aj.kept k (fun e=>h.apart.2.2.2.1 e)
 isSome:=h.isSome
 gF i hi:=(k.cell (p:=⟨g.br,i,none⟩) h.og (fun e=>h.apart.2.2.2.2.2.2.2.1 e.symm)).trans (h.gF i hi)
 places i hi:=(k.cell (p:=⟨g.bp,i,none⟩) h.oe (fun e=>h.apart.2.2.2.2.2.2.2.2 e.symm)).trans (h.places i hi)
 og:=As h.og k.size
 oe:=As h.oe k.size
 nc:=h.nc
 qR:=h.qR
 fm:=by obtain⟨D,hD,hF⟩:=h.fm;exact⟨D,jK hD k (fun e=>h.apart.2.2.2.2.2.2.1 e),hF⟩
 nm:=⟨D,hD,hF⟩
 len:=h.len
 nD:=h.nD
 next:=h.next
 aR:=h.aR
 names:=hn
 apart:=h.apart
def qQ(g:RG)(st:RS):Int:=g.ps.getD st.next 0
def Ho(g:RG)(st:RS):RS:={st.eo 3 (qQ g st)with next:=g.rs.length}
theorem Nu{g:RG}{st:RS}(h:aS w g fo st):
 Calls prog 58 #[.pointer (some ⟨g.b,0,none⟩)] w fun en w'=>en=.returned (.tuple #[])/\aS w' g fo (Ho g st)/\aa g.au w w':=by
 have hp:=h.nc st.next
 go_in
 go_wp2_with fail
 refine(ad0 h).mono ?_;rintro e w1 ⟨rfl,aU⟩;have h1:=h.nil aU;go_wp2_with fail;refine(He h1 3 _ (by omega) hp).mono ?_;rintro e w2 ⟨rfl,h2,aN⟩;have c0:w2.cell? ⟨g.b,0,none⟩=some (.slice g.ao g.rs.length g.cr):=h2.aj.cell 0;have c2:w2.cell? ⟨g.b,2,none⟩=some (.int .i64 st.next):=h2.aj.cell 2;have f2:=h2.aj.frozen 2;go_wp2_with fail;go_end0;exact⟨rfl,h2.Rz g.rs.length (Ab _) (by have:=h2.aR;have:=h2.next;omega),((aU.mono (fun _ hx=>hx.elim)).trans aN).trans (yT g 2 _)⟩
def eM(g:RG)(l:List UInt8)(st:RS):RS:=if aG l (ay g st)then{st with next:=st.next+1}else Ho g st
def pq(g:RG)(l:List UInt8)(st:RS):RS:=if ay g st= -1\/aG l (ay g st)=true then Ho g st else{st with next:=st.next+1}
theorem alp{g:RG}{st:RS}(h:aS w g fo st)(s:ByteArray)(hs:∀b∈s.data.toList,b.toNat<128):
 Calls prog 163 #[.pointer (some ⟨g.b,0,none⟩),.string s] w fun e w'=>e=.returned (.tuple #[])/\aS w' g fo (eM g s.data.toList st)/\aa g.au w w':=by
 unfold eM
 cases hy:aG s.data.toList (ay g st)
 ·go_in
  go_wp2_with fail
  refine(XD h s hs hy).mono ?_;rintro e w1 ⟨rfl,h1,aU⟩;go_wp2_with fail;refine(Nu h1).mono ?_;rintro e w2 ⟨rfl,h2,aN⟩;go_wp2_with fail;go_end0;exact⟨rfl,by simpa using h2,aU.trans aN⟩
 ·go_in
  go_wp2_with fail
  refine(XE h s hs hy).mono ?_;rintro e w1 ⟨rfl,h1,aU⟩;go_wp2_with fail;go_end0;exact⟨rfl,by simpa using h1,aU⟩
theorem aln{g:RG}{st:RS}(h:aS w g fo st)(s:ByteArray)(hs:∀b∈s.data.toList,b.toNat<128):
 Calls prog 136 #[.pointer (some ⟨g.b,0,none⟩),.string s] w fun e w'=>e=.returned (.int .i32 (ay g st))/\aS w' g fo (pq g s.data.toList st)/\aa g.au w w':=by
 unfold pq;have hl:=h.len;by_cases ff:ay g st= -1
 ·rw[if_pos (Or.inl ff)];have hb:(ay g st== -1)=true:=by simp[ff]
  go_in
  go_wp2_with fail
  refine(NB h).mono ?_;rintro e w1 ⟨rfl,aU⟩;go_wp2_with fail;refine(Nu (h.nil aU)).mono ?_;rintro e w2 ⟨rfl,h2,aN⟩;go_wp2_with fail;go_ret;exact⟨by rw[ff];rfl,h2,(aU.mono (fun _ hx=>hx.elim)).trans aN⟩
 ·have hb:(ay g st== -1)=false:=by simp[ff]
  have aw:st.next<g.rs.length:=by
   apply Dv
   intro hn;exact ff (by simp[ay,List.getD,Cj (by omega:g.rs.length<=st.next)])
  cases hy:aG s.data.toList (ay g st)
  ·rw[if_neg (by simp[ff])];go_in;go_wp2_with fail;refine(NB h).mono ?_;rintro e w1 ⟨rfl,aU⟩;have h1:=h.nil aU;go_wp2_with fail;refine(NC h1 s hs).mono ?_;rintro e w2 ⟨rfl,aN⟩;have h2:=h1.nil aN;have c2:w2.cell? ⟨g.b,2,none⟩=some (.int .i64 st.next):=h2.aj.cell 2;have f2:=h2.aj.frozen 2;rw[hy];go_wp2_with fail;go_ret;refine⟨rfl,?_,((aU.trans aN).mono (fun _ hx=>hx.elim)).trans (yT g 2 _)⟩;have:=h2.Rz (st.next+1) (by omega) (by have:=h.aR;omega);simpa using this
  ·rw[if_pos (Or.inr rfl)];go_in;go_wp2_with fail;refine(NB h).mono ?_;rintro e w1 ⟨rfl,aU⟩;have h1:=h.nil aU;go_wp2_with fail;refine(NC h1 s hs).mono ?_;rintro e w2 ⟨rfl,aN⟩;have h2:=h1.nil aN;rw[hy];go_wp2_with fail;refine(Nu h2).mono ?_;rintro e w3 ⟨rfl,h3,bA⟩;go_wp2_with fail;go_ret;exact⟨rfl,h3,((aU.trans aN).mono (fun _ hx=>hx.elim)).trans bA⟩
def vN:List UInt8:=[48,49,50,51,52,53,54,55,56,57]
def M4:List UInt8:=[44]
def vM:List UInt8:=[125]
def JA:List UInt8:=[123]
def acu:List UInt8:=[92,91,93,94,45]
def G9:List UInt8:=[46,94,36,124,63,42,43,40,41,91,93,123,125,45,47,92,110,116,114]
def qL:List UInt8:=[46,94,36,124,63,42,43,40,41,91,93,123,125,45,47,92,110,116,114,100,68,119,87,115,83,98,66]
def f_:List UInt8:=[92]
def my:List UInt8:=[100,119,115]
def xq:List UInt8:=[45]
def tg:List UInt8:=[94]
def pU:List UInt8:=[93]
def JB:List UInt8:=[91]
def oH:List UInt8:=[97,98,99,100,101,102,103,104,105,106,107,108,109,110,111,112,113,114,115,116,117,118,119,120,121,122]
def Jz:List UInt8:=[62]
def CG:List UInt8:=[60]
def ic:List UInt8:=[63]
def JE:List UInt8:=[42]
def JC:List UInt8:=[43]
def tf:List UInt8:=[124]
def JD:List UInt8:=[41]
def G_:List UInt8:=[40]
def oG:List UInt8:=[124,41]
def lI:List UInt8:=[105]
def G6:List UInt8:=[58]
def M7:List UInt8:=[46,94,36]
def M6:List UInt8:=[92,46,94,36,124,63,42,43,40,41,91,123]
def jr(g:RG)(st:RS):RS×Int:=if aG vN (ay g st)then({st with next:=st.next+1},ay g st-48)else(Ho g st,0)
def fD(g:RG)(st:RS):RS×Int:=
 if 0<(jr g st).2/\aG vN (ay g (jr g st).1)=true then((jr g (jr g st).1).1,10*(jr g st).2+(jr g (jr g st).1).2)else jr g st
def rZ(g:RG)(st:RS):RS×Int:=if aG vM (ay g st)then(st,-1)else fD g st
def eF(g:RG)(st:RS):RS×Int×Int:=
 if aG M4 (ay g (fD g st).1)then
  (eM g vM (rZ g {(fD g st).1 with next:=(fD g st).1.next+1}).1,(fD g st).2,(rZ g {(fD g st).1 with next:=(fD g st).1.next+1}).2)
 else(eM g vM (fD g st).1,(fD g st).2,(fD g st).2)
def qv(c:Int):Int:=if c=110 then 10 else if c=116 then 9 else if c=114 then 13 else c
def lT(g:RG)(qu:Bool)(st:RS):RS×Int:=if qu then(eM g G9 st,qv (ay g st))else(pq g acu st,ay g st)
def df(g:RG)(st:RS):RS×Int:=lT g (aG f_ (ay g st)) (fq g f_ st)
def qO(g:RG)(place:Int)(x:RS×Int):RS:=
 if aG xq (ay g x.1)then
  if(df g {x.1 with next:=x.1.next+1}).2<x.2 then(df g {x.1 with next:=x.1.next+1}).1.eo 5 place else(df g {x.1 with next:=x.1.next+1}).1
 else x.1
def fU(g:RG)(st:RS):RS:=
 if aG f_ (ay g st)=true/\aG my (ay g {st with next:=st.next+1})=true then{st with next:=st.next+2}
 else qO g (qQ g st) (df g st)
def mD(g:RG):Nat->RS->RS
 |0,st=>st
 |m+1,st=>if ay g st= -1\/aG pU (ay g st)=true then st else mD g m (fU g st)
def rY(g:RG)(st:RS):RS:=eM g pU (mD g (g.rs.length+1) (fU g (fq g tg st)))
def lA(g:RG)(first:Nat):Nat->RS->RS
 |0,st=>st
 |m+1,st=>if st.next<first+8/\aG oH (ay g st)=true then lA g first m {st with next:=st.next+1}else st
def JQ(l:List Int):List UInt8:=(runesBytes l).data.toList
def mZ(g:RG)(first:Nat)(st:RS):RS:=
 if st.names.any (fun p=>p.1==JQ ((g.rs.take st.next).drop first))then st.eo 6 (g.ps.getD first 0)
 else{st with names:=(JQ ((g.rs.take st.next).drop first),st.aR)::st.names}
def pz(g:RG)(st:RS):RS:=eM g Jz (mZ g st.next (lA g st.next (g.rs.length+9) (eM g oH st)))
inductive PT where
 |node (kind:Int) (parts:List PT) (low high:Int):PT
mutual
def PT.size:PT->Int
 |.node k ps lo hi=>
  let s:=PT.i_ ps
  min (if k=0\/k=1 then s+1 else if k=3 then s+(ps.length-1:Int)else if k=4 then(if hi= -1 then lo+1 else hi)*(s+1)else s) 1001
def PT.i_:List PT->Int
 | []=>0
 |p::ps=>PT.size p+PT.i_ ps
end
def gJ(g:RG)(a:PT)(st:RS):RS×PT:=
 if aG JE (ay g st)then(fq g ic {st with next:=st.next+1},.node 4 [a] 0 (-1))
 else if aG JC (ay g st)then(fq g ic {st with next:=st.next+1},.node 4 [a] 1 (-1))
 else if aG ic (ay g st)then(fq g ic {st with next:=st.next+1},.node 4 [a] 0 1)
 else if aG JA (ay g st)then
  let x:=eF g {st with next:=st.next+1}
  (fq g ic (if x.2.1>20\/x.2.2>20\/(x.2.2≠ -1/\x.2.2<x.2.1)then x.1.eo 4 (qQ g st)else x.1),.node 4 [a] x.2.1 x.2.2)
 else(st,a)
def iu(g:RG)(st:RS):RS:=
 if aG ic (ay g st)=false then{st with aR:=st.aR+1}
 else if aG CG (ay g {st with next:=st.next+1})then pz g {st with next:=st.next+2,aR:=st.aR+1}
 else eM g G6 (fq g lI {st with next:=st.next+1})
def vU(g:RG)(aE:RS->RS×PT)(st:RS):RS×PT:=(eM g JD (aE (iu g st)).1,.node 1 [(aE (iu g st)).2] 0 0)
def gG:PT:=.node 0 [] 0 0
def dq(g:RG)(aE:RS->RS×PT)(st:RS):RS×PT:=
 if aG G_ (ay g st)then vU g aE {st with next:=st.next+1}
 else if aG JB (ay g st)then(rY g {st with next:=st.next+1},gG)
 else if aG f_ (ay g st)then(eM g qL {st with next:=st.next+1},gG)
 else if aG M7 (ay g st)then({st with next:=st.next+1},gG)
 else(pq g M6 st,gG)
def gS(g:RG)(aE:RS->RS×PT):Nat->RS->List PT->RS×List PT
 |0,st,aA=>(st,aA)
 |m+1,st,aA=>
  if ay g st= -1\/aG oG (ay g st)=true then(st,aA)
  else gS g aE m (gJ g (dq g aE st).2 (dq g aE st).1).1 (aA++[(gJ g (dq g aE st).2 (dq g aE st).1).2])
def dK(g:RG)(aE:RS->RS×PT)(st:RS):RS×PT:=((gS g aE (g.rs.length+1) st []).1,.node 2 (gS g aE (g.rs.length+1) st []).2 0 0)
def gi(g:RG)(aE:RS->RS×PT):Nat->RS->List PT->RS×List PT
 |0,st,aA=>(st,aA)
 |m+1,st,aA=>
  if aG tf (ay g st)then gi g aE m (dK g aE {st with next:=st.next+1}).1 (aA++[(dK g aE {st with next:=st.next+1}).2])else(st,aA)
def aQ(g:RG):Nat->RS->RS×PT
 |0,st=>(st,gG)
 |k+1,st=>((gi g (aQ g k) (g.rs.length+1) (dK g (aQ g k) st).1 [(dK g (aQ g k) st).2]).1,.node 3 (gi g (aQ g k) (g.rs.length+1) (dK g (aQ g k) st).1 [(dK g (aQ g k) st).2]).2 0 0)
def dY(g:RG)(st:RS):RS×PT:=
 if ay g (aQ g (g.rs.length+1) st).1= -1 then aQ g (g.rs.length+1) st else(Ho g (aQ g (g.rs.length+1) st).1,(aQ g (g.rs.length+1) st).2)
theorem anV{g:RG}{st:RS}(h:g.rs.length<=st.next):ay g st= -1:=by simp[ay,List.getD,Cj h]
theorem Wj{g:RG}{st:RS}(h:ay g st≠ -1):st.next<g.rs.length:=by
 apply Dv
 intro hn;exact h (anV (by omega))
theorem VU{r:Int}(h:aG vN r=true):48<=r/\r<=57:=by
 simp[aG,vN]at h
 omega
