/- Words on memory -/
import Derived.Test.YtpdnofhackjfdaaGreatDoorP00
set_option linter.all false
set_option maxRecDepth 100000
set_option maxHeartbeats 2000000
namespace Go.Proofs.YtpdnofhackjfdaaGreatDoor
open Go.Proofs.Tryz
open Go.RowKit
variable {p:Addr} {cs:Array Value} {fo:Bool} {D:DataW Unit} {b:Nat} {S S':Nat->Prop} {t:TypeId} {a c w w':World}
structure aa(S:Nat->Prop)(w w':World):Prop where
 os:w'.os=w.os
 tape:w'.tape=w.tape
 output:w'.output=w.output
 size:w.heap.size<=w'.heap.size
 block:∀k,k<w.heap.size->¬S k->w'.heap[k]? =w.heap[k]?
def af:Nat->Prop:=fun _=>False
theorem aa.refl(S:Nat->Prop)(w:World):aa S w w:=⟨rfl,rfl,rfl,Ab _,fun _ _ _=>rfl⟩
theorem aa.trans{b:World}(h:aa S a b)(k:aa S b c):aa S a c:=
 ⟨k.os.trans h.os,k.tape.trans h.tape,k.output.trans h.output,Be h.size k.size,fun i hi hs=>(k.block i (Ar hi h.size) hs).trans (h.block i hi hs)⟩
theorem aa.bV{b:World}(h:aa S a b)(k:aa S' b c)(hs:∀i,i<a.heap.size->S' i->S i):aa S a c:=
 ⟨k.os.trans h.os,k.tape.trans h.tape,k.output.trans h.output,Be h.size k.size,fun i hi hn=>(k.block i (Ar hi h.size) (fun h'=>hn (hs i hi h'))).trans (h.block i hi hn)⟩
theorem aa.mono(h:aa S w w')(hs:∀i,S i->S' i):aa S' w w':=
 ⟨h.os,h.tape,h.output,h.size,fun k hk hn=>h.block k hk (fun h'=>hn (hs k h'))⟩
theorem aa.drew(h:aa S a w):aa S a w.drew:=⟨h.os,h.tape,h.output,h.size,h.block⟩
theorem aa.drewN(h:aa S a w)(n:Nat):aa S a (w.drewN n):=⟨h.os,h.tape,h.output,h.size,h.block⟩
theorem aa.alloc(h:aa S a w)(o:Obj):aa S a (w.alloc o):=
 ⟨h.os,h.tape,h.output,by have:=h.size;simp;omega,fun k hk hs=>(Below.heap_alloc w o k (Ar hk h.size)).trans (h.block k hk hs)⟩
theorem aa.setCell(h:aa S a w)(hp:S p.block\/a.heap.size<=p.block)(u:Value):aa S a (w.setCell p u):=
 ⟨h.os,h.tape,h.output,by have:=h.size;simp[World.setCell];omega,fun k hk hs=>(Cr w p u k (by
   intro e;subst e;rcases hp with hp|hp
   ·exact hs hp
   ·omega)).trans (h.block k hk hs)⟩
theorem aa.eN{row:Option Nat}(h:aa S a w)(hg:w.grownBy w' row)(hr:∀k,row=some k->S k\/a.heap.size<=k):aa S a w':=
 ⟨hg.os.trans h.os,hg.tape.trans h.tape,hg.output.trans h.output,Be h.size hg.size,fun k hk hs=>(hg.block k (Ar hk h.size) (fun e=>by
   rcases hr k e.symm with hp|hp
   ·exact hs hp
   ·omega)).trans (h.block k hk hs)⟩
theorem aa.below(h:aa S w w'){B:Nat}(hB:B<=w.heap.size)(hs:∀k,k<B->¬S k):Below B w w':=
 ⟨h.os,h.tape,h.output,h.size,fun k hk=>h.block k (Ar hk hB) (hs k hk)⟩
theorem aa.cell(h:aa S w w')(hp:p.block<w.heap.size)(hs:¬S p.block):w'.cell? p=w.cell? p:=Bz (w:=w) (h.block p.block hp hs)
theorem aa.frozen(h:aa S w w')(hp:p.block<w.heap.size)(hs:¬S p.block):w'.frozen? p=w.frozen? p:=World.frozen?_of_block (w:=w) (h.block p.block hp hs)
def aq(w:World)(b:Nat)(cs:Array Value)(t:TypeId):Prop:=w.heap[b]? =some (.cells cs t (0,0))
theorem aq.lt(h:aq w b cs t):b<w.heap.size:=by
 unfold aq at h;exact(Ak.1 h).1
theorem aq.cell(h:aq w b cs t)(i:Nat):w.cell? ⟨b,i,none⟩=cs[i]? :=by
 unfold aq at h;simp[World.cell?,h]
theorem aq.frozen(h:aq w b cs t)(i:Nat):w.frozen? ⟨b,i,none⟩=false:=by
 unfold aq at h;simp[World.frozen?,h]
theorem aq.kept(h:aq w b cs t)(k:aa S w w')(hs:¬S b):aq w' b cs t:=(k.block b h.lt hs).trans h
theorem aq.setCell(h:aq w b cs t)(i:Nat)(v:Value):aq (w.setCell ⟨b,i,none⟩ v) b (cs.setIfInBounds i v) t:=by
 unfold aq at*;have hb:=(Ak.1 h).1;simp only[World.setCell,Ef];simp[h]
theorem aq.Ns(h:aq w b cs t)(hp:b≠p.block)(v:Value):aq (w.setCell p v) b cs t:=(Cr w p v b hp).trans h
theorem aq.alloc(h:aq w b cs t)(o:Obj):aq (w.alloc o) b cs t:=(Below.heap_alloc w o b h.lt).trans h
theorem aq.new(w:World)(cs:Array Value)(t:TypeId):aq (w.alloc (.cells cs t (0,0))) w.heap.size cs t:=by
 show(w.heap.push _)[w.heap.size]? =_
 simp
theorem aq.drew(h:aq w b cs t):aq w.drew b cs t:=h
def aG(l:List UInt8)(r:Int):Bool:=l.any fun b=>(b.toNat:Int)==r
theorem ajG(s:ByteArray)(c:Int)(w:World):
 Calls prog 191 #[.string s,.int .u8 c] w fun e w'=>e=.returned (.int .i64 (Lib.indexByte s.data.toList c.toNat.toUInt8))/\w'=w:=by
 go_in
 go_wp2
 rw[run_callFunc_extern func201 (by kernel_rfl) (by kernel_rfl) (by kernel_rfl) (e:=Extern.BytealgIndexByte.indexByte) (by kernel_rfl),Lib.run_indexByteString];simp only[Result.andThen];rw[Oper.upon_value];go_wp2;go_ret;exact⟨rfl,rfl⟩
theorem ace(s:ByteArray)(c:Int)(w:World):
 Calls prog 180 #[.string s,.int .u8 c] w fun e w'=>e=.returned (.int .i64 (Lib.indexByte s.data.toList c.toNat.toUInt8))/\w'=w:=by
 go_in
 go_wp2_with (go_at_call 191;refine(ajG _ _ _).mono ?_;rintro e w' ⟨rfl,rfl⟩)
 go_ret
 exact⟨rfl,rfl⟩
def zi(r:Int):Bool:=decide ((0<=r/\r<55296)\/(57343<r/\r<=1114111))
theorem Xy(r:Int)(w:World):Calls prog 181 #[.int .i32 r] w fun e w'=>e=.returned (.bool (zi r))/\w'=w:=by
 go_in
 go_wp2
 all_goals go_ret
 all_goals refine⟨?_,rfl⟩
 all_goals(congr 2;simp[zi];omega)
theorem ajD(l:List UInt8)(r:Int)(h0:0<=r)(h1:r<128):(decide (0<=Lib.indexByte l r.toNat.toUInt8))=aG l r:=by
 induction l with
 |nil=>simp[Lib.indexByte,aG]
 |cons b l ih=>
  have im:=Lib.indexByte_ge l r.toNat.toUInt8
  have hc:(b==r.toNat.toUInt8)=((b.toNat:Int)==r):=by
   have hb:=b.toNat_lt;rw[Bg];simp only[Gb];constructor
   ·intro e;rw[e];simp;omega
   ·intro e;apply UInt8.toNat.inj;simp;omega
  have hi:aG (b::l) r=(((b.toNat:Int)==r)||aG l r):=by simp[aG]
  rw[hi,<-ih,<-hc];have hu:Lib.indexByte (b::l) r.toNat.toUInt8=if b==r.toNat.toUInt8 then 0 else if Lib.indexByte l r.toNat.toUInt8== -1 then-1 else Lib.indexByte l r.toNat.toUInt8+1:=rfl
  rw[hu];generalize Lib.indexByte l r.toNat.toUInt8=x at*
  cases hb:(b==r.toNat.toUInt8)
  ·by_cases hx:x= -1
   ·simp[hx]
   ·simp[hx];omega
  ·simp
theorem ajH(s:ByteArray)(r:Int)(w:World)(h0:0<=r)(h1:r<128):
 Calls prog 161 #[.string s,.int .i32 r] w fun e w'=>e=.returned (.int .i64 (Lib.indexByte s.data.toList r.toNat.toUInt8))/\w'=w:=by
 go_in
 go_wp2_with (go_at_call 180;refine(ace _ _ _).mono ?_;rintro e w' ⟨rfl,rfl⟩)
 go_ret
 exact⟨rfl,rfl⟩
theorem ajI(s:ByteArray)(r:Int)(w:World)(hv:zi r=false):
 Calls prog 161 #[.string s,.int .i32 r] w fun e w'=>e=.returned (.int .i64 (-1))/\w'=w:=by
 have hr:r<0\/55296<=r:=by simp[zi]at hv;omega
 have az:(r==65533)=false:=by simp[zi]at hv;simp;omega
 rcases hr with hr|hr
 ·go_in
  go_wp2_with (go_at_call 181;refine(Xy _ _).mono ?_;rintro e w' ⟨rfl,rfl⟩)
  go_ret
  exact⟨rfl,rfl⟩
 ·go_in
  go_wp2_with (go_at_call 181;refine(Xy _ _).mono ?_;rintro e w' ⟨rfl,rfl⟩)
  go_ret
  exact⟨rfl,rfl⟩
theorem ajJ(s:ByteArray)(w:World)(hs:∀b∈s.data.toList,b.toNat<128):
 Calls prog 161 #[.string s,.int .i32 65533] w fun e w'=>e=.returned (.int .i64 (-1))/\aa af w w':=by
 go_in
 go_wp2_with fail
 go_loopw [5] (fun _ wr=>∃k:Nat,k<=s.size/\wr=w.iter s k) (fun _ wr=>s.size-wr.iterPos w.heap.size)
 case atStart=>exact⟨0,Am _,rfl⟩
 case round=>
  obtain⟨k,hk,rfl⟩:=hrel;by_cases aw:k<s.size
  ·have hb:=hs s[k] (by exact Array.getElem_mem_toList (xs:=s.data) aw);have hn:=(fun ty=>run_next_ascii (P:=prog) w s k ty aw hb);have az:(((s[k]).toNat:Int)==65533)=false:=by simp;omega
   go_wp2_with fail
   go_roundw
   case rel=>exact⟨k+1,by omega,rfl⟩
   case measure=>simp;omega
  ·have hn:=(fun ty=>run_next_end (P:=prog) w s k ty aw);go_wp2_with fail;go_ret;exact⟨rfl,(aa.refl _ _).alloc _⟩
theorem ajF(l:List UInt8)(c:UInt8)(h:∀b∈l,b.toNat<128)(hc:128<=c.toNat):Lib.indexByte l c<0:=by
 induction l with
 |nil=>simp[Lib.indexByte]
 |cons b l ih=>
  have hb:=h b (by simp)
  have az:(b==c)=false:=by
   cases hx:(b==c)
   ·rfl
   ·have:=Gb.1 hx;rw[this]at hb;omega
  have i:=ih (fun x hx=>h x (by simp[hx]));have hu:Lib.indexByte (b::l) c=if b==c then 0 else if Lib.indexByte l c== -1 then-1 else Lib.indexByte l c+1:=rfl
  have im:=Lib.indexByte_ge l c;have e:Lib.indexByte l c= -1:=by omega
  rw[hu,az,e];simp
theorem ajK(s:ByteArray)(r:Int)(w:World)(hs:∀b∈s.data.toList,b.toNat<128)(hv:zi r=true)(h:128<=r)(az:(r==65533)=false):
 Calls prog 161 #[.string s,.int .i32 r] w fun e w'=>e=.returned (.int .i64 (-1))/\aa af w w':=by
 have Qr:Utf8.valid r=true:=by simp[zi]at hv;simp[Utf8.valid];omega
 obtain⟨e2,e4,el⟩:=encode_facts r Qr h;have t_:=el (by omega);have aw:((Utf8.encode r).size:Int)-1<((Utf8.encode r).size:Int):=by omega
 clear Qr;go_in;go_wp2_with (go_at_call 181;refine(Xy _ _).mono ?_;rintro e w' ⟨rfl,rfl⟩);go_step3;go_wp2_with fail;refine wp_loop_rounds 1 ?_;rw[rounds_succ];by_cases aS:((Utf8.encode r).size:Int)-1<(s.size:Int)
 ·go_wp2_with fail
  go_step3
  go_wp2_with fail
  have hE1:0<=((Utf8.encode r).size:Int)-1:=by omega
  have hL:(Utf8.encode r).size-1<(Utf8.encode r).size:=by omega
  have hE2:(1:Int)<=((Utf8.encode r).size:Int):=by omega
  have hS:(Utf8.encode r).size-1<s.size:=by omega
  have I8:=hs (s[(Utf8.encode r).size-1]) (by exact Array.getElem_mem_toList (xs:=s.data) hS);have hN:(((Utf8.encode r).size:Int)-1).toNat=(Utf8.encode r).size-1:=by omega
  go_region
  all_goals go_wp2_with fail
  have rO:IntKind.i64.wrap ((Utf8.encode r).size:Int)=((Utf8.encode r).size:Int):=wrap_small _ (by omega) (by omega);have kM:(Utf8.encode r).size<=s.size:=by omega
  obtain⟨w2,pP⟩:∃w2,w2=w'.drew:=⟨_,rfl⟩
  have aO:aa af w' w2:=by rw[pP];exact(aa.refl _ _).drew
  rw[<-pP];clear pP;go_quiet ((go_at_call 180;go_must (exact As (ace _ _ _))))
  have aiH:Lib.indexByte (List.take (s.size-(Utf8.encode r).size) (List.drop (Utf8.encode r).size s.data.toList)) (Utf8.encode r)[(Utf8.encode r).size-1]<0:=
   ajF _ _ (fun b hb=>hs b (Fk (C0 hb))) t_
  go_wp2_with fail
  rw[Exit.noGoto_ret];go_wp2_with fail;rw[Exit.noGoto_ret];go_wp2_with fail;go_ret;exact⟨rfl,aO.drewN _⟩
 ·go_wp2_with fail
  go_ret
  exact⟨rfl,aa.refl _ _⟩
theorem ag6(s:ByteArray)(r:Int)(w:World)(hs:∀b∈s.data.toList,b.toNat<128):
 Calls prog 129 #[.string s,.int .i32 r] w fun e w'=>e=.returned (.bool (aG s.data.toList r))/\aa af w w':=by
 have key:∃i:Int,decide (0<=i)=aG s.data.toList r/\Calls prog 161 #[.string s,.int .i32 r] w fun e w'=>e=.returned (.int .i64 i)/\aa af w w':=by
  have aji:¬(0<=r/\r<128)->aG s.data.toList r=false:=by
   intro hr;unfold aG;rw[List.any_eq_false];intro b hb;have:=hs b hb;simp;omega
  by_cases h1:0<=r/\r<128
  ·exact⟨_,ajD _ _ h1.1 h1.2,(ajH s r w h1.1 h1.2).mono fun e w' ⟨he,hw⟩=>⟨he,hw▸aa.refl _ _⟩⟩
  ·refine⟨-1,by rw[aji h1];decide,?_⟩
   cases hv:zi r
   ·exact(ajI s r w hv).mono fun e w' ⟨he,hw⟩=>⟨he,hw▸aa.refl _ _⟩
   ·have h0:128<=r:=by simp[zi]at hv;omega
    by_cases he:r=65533
    ·subst he;exact ajJ s w hs
    ·exact ajK s r w hs hv h0 (by simp[he])
 obtain⟨i,hi,hc⟩:=key;go_in;go_wp2_with (go_at_call 161;refine hc.mono ?_;rintro e w' ⟨rfl,hk⟩);go_ret;exact⟨rfl,by assumption⟩
theorem ait(s p:ByteArray)(w:World):
 Calls prog 55 #[.string s,.string p] w fun e w'=>e=.returned (.bool (Lib.hasPrefix s.data.toList p.data.toList))/\aa af w w':=by
 rw[<-Lib.hasPrefix_of_take,<-Es,<-Es];go_in;go_wp2
 ·rename_i h
  go_ret
  refine⟨?_,aa.refl _ _⟩;show Ending.returned (Value.bool ((s.extract 0 p.size).toList==p.toList))=_
  rw[Lib.extract_toList,Lib.toList_data];simp[h]
 ·rename_i h
  go_ret
  refine⟨?_,aa.refl _ _⟩;show Ending.returned (Value.bool false)=_
  simp[h]
open Go.Maps
structure cO where
 bu:Option Int
 form:Option Int
 rep:Option Int
 cls:Option Int
 BM:Option Int
 u6:Option Int
def cO.get(f:cO)(e:Int):Option Int:=
 if e=2 then f.bu else if e=3 then f.form else if e=4 then f.rep else if e=5 then f.cls else if e=6 then f.BM else if e=7 then f.u6 else none
def cO.put(f:cO)(e:Int)(p:Int):cO:=
 if e=2 then{f with bu:=some p}else if e=3 then{f with form:=some p}else if e=4 then{f with rep:=some p}else if e=5 then{f with cls:=some p}
 else if e=6 then{f with BM:=some p}else if e=7 then{f with u6:=some p}else f
def cO.eu(f:cO)(e:Int)(p:Int):cO:=if(f.get e).isSome then f else f.put e p
def yP(o:Option Int):Nat:=if o.isSome then 1 else 0
def cO.u_(f:cO):Nat:=yP f.bu+yP f.form+yP f.rep+yP f.cls+yP f.BM+yP f.u6
theorem Jt(o:Option Int):yP o<=1:=by unfold yP;split<;>omega
theorem cO.aak(f:cO):f.u_<=6:=by
 have:=Jt f.bu;have:=Jt f.form;have:=Jt f.rep;have:=Jt f.cls;have:=Jt f.BM;have:=Jt f.u6;unfold cO.u_;omega
theorem cO.abb(f:cO)(e e' p:Int)(h:2<=e/\e<=7):(f.put e p).get e'=if e'=e then some p else f.get e':=by
 have:e=2\/e=3\/e=4\/e=5\/e=6\/e=7:=by omega
 rcases this with rfl|rfl|rfl|rfl|rfl|rfl<;>simp[cO.put,cO.get]<;>(repeat' split)<;>first|rfl|omega|simp_all
theorem cO.Tt(f:cO)(e p:Int)(h:2<=e/\e<=7)(hn:(f.get e).isSome=false):(f.put e p).u_=f.u_+1:=by
 have:e=2\/e=3\/e=4\/e=5\/e=6\/e=7:=by omega
 rcases this with rfl|rfl|rfl|rfl|rfl|rfl<;>simp[cO.get]at hn<;>simp[cO.put,cO.u_,yP,hn]<;>omega
structure wm(D:DataW Unit)(F:cO):Prop where
 isMap:IsMap D
 has:∀e,Maps.has D (.int .i64 e)=(F.get e).isSome
 val:∀e p,F.get e=some p->D.atKey (.int .i64 e) (.lit (.int .i64 0))=.lit (.int .i64 p)
 size:Maps.size D=F.u_
structure Ic(D:DataW Unit)(l:List (List UInt8×Nat)):Prop where
 isMap:IsMap D
 has:∀s,Maps.has D (.string s)=l.any (fun p=>p.1==s)
 val:∀s k,(s,k) ∈l->D.atKey (.string s) (.lit (.int .i64 0))=.lit (.int .i64 k)
 size:Maps.size D=l.length
theorem aci(e:Int):WideAt.IsKeyLit (.int .i64 e):=by simp[WideAt.IsKeyLit]
theorem acj(s:List UInt8):WideAt.IsKeyLit (.string s):=by simp[WideAt.IsKeyLit]
theorem wm.put{F:cO}(h:wm D F)(ht:Tidy D)(e p:Int)(he:2<=e/\e<=7)(hn:(F.get e).isSome=false):wm (D.put (.int .i64 e) (.lit (.int .i64 p))) (F.put e p) where
 isMap:=h.isMap.put _ _
 has e':=by
  rw[cO.abb F e e' p he];by_cases x:e'=e
  ·subst x;simp[has_put_same h.isMap (aci _)]
  ·rw[has_put_other (by simpa using x),h.has];simp[x]
 val e' q hq:=by
  rw[cO.abb F e e' p he]at hq;by_cases x:e'=e
  ·subst x;simp at hq;subst hq;exact atKey_put_same h.isMap (aci _) _ _
  ·rw[if_neg x]at hq;rw[atKey_put_other (by simpa using x)];exact h.val e' q hq
 size:=by
  rw[Maps.size_put ht,h.has,hn,if_neg (by simp),h.size,cO.Tt F e p he hn]
theorem Ic.put{l:List (List UInt8×Nat)}(h:Ic D l)(ht:Tidy D)(s:List UInt8)(k:Nat)(hn:l.any (fun p=>p.1==s)=false):Ic (D.put (.string s) (.lit (.int .i64 k))) ((s,k)::l) where
 isMap:=h.isMap.put _ _
 has s':=by
  by_cases x:s'=s
  ·subst x;simp[has_put_same h.isMap (acj _)]
  ·rw[has_put_other (by simpa using x),h.has];have:(s==s')=false:=by simp;exact fun e=>x e.symm
   simp[this]
 val s' q hq:=by
  by_cases x:s'=s
  ·subst x;rcases Cn.1 hq with hq|hq
   ·cases hq;exact atKey_put_same h.isMap (acj _) _ _
   ·exfalso
    have:=List.any_eq_false.1 hn _ hq;simp at this
  ·rw[atKey_put_other (by simpa using x)];rcases Cn.1 hq with hq|hq
   ·cases hq;exact absurd rfl x
   ·exact h.val s' q hq
 size:=by
  rw[Maps.size_put ht,h.has,hn,if_neg (by simp),h.size];simp
structure RG where
 b:Nat
 ao:Option Addr
 br:Nat
 cr:Nat
 bp:Nat
 cp:Nat
 bf:Nat
 bn:Nat
 rs:List Int
 ps:List Int
structure RS where
 next:Nat
 bl:cO
 aQ:Nat
 names:List (List UInt8×Nat)
def RG.au(g:RG):Nat->Prop:=fun k=>k=g.b\/k=g.bf\/k=g.bn
def RG.use(g:RG):Nat->Prop:=fun k=>k=g.b\/k=g.bf\/k=g.bn\/k=g.br\/k=g.bp
def agH(g:RG)(fo:Bool)(st:RS):Array Value:=
 #[.slice g.ao g.rs.length g.cr,.slice (some ⟨g.bp,0,none⟩) (g.rs.length+1) g.cp,.int .i64 st.next,.map (some g.bf),.bool fo,.int .i64 st.aQ,.map (some g.bn)]
structure aR(w:World)(g:RG)(fo:Bool)(st:RS):Prop where
 ak:aq w g.b (agH g fo st) 99
 isSome:0<g.rs.length->g.ao=some ⟨g.br,0,none⟩
 gI:∀i,i<g.rs.length->w.cell? ⟨g.br,i,none⟩=some (.int .i32 (g.rs.getD i 0))
 places:∀i,i<g.rs.length+1->w.cell? ⟨g.bp,i,none⟩=some (.int .i64 (g.ps.getD i 0))
 nX:g.br<w.heap.size
 nW:g.bp<w.heap.size
 mP:∀i,0<=g.ps.getD i 0/\g.ps.getD i 0<=300
 qQ:∀r∈g.rs,0<=r/\r<=1114111
 fm:∃D,w.ownsMap prog 25 (plainElem (H:=Unit) prog 3) g.bf (Maps.size D) D/\wm D st.bl
 nm:∃D,w.ownsMap prog 9 (plainElem (H:=Unit) prog 3) g.bn (Maps.size D) D/\Ic D st.names
 len:g.rs.length<=300
 np:g.rs.length<=g.cr
 next:st.next<=g.rs.length
 aQ:st.aQ<=st.next
 names:st.names.length<=st.aQ
 apart:g.b≠g.br/\g.b≠g.bp/\g.b≠g.bf/\g.b≠g.bn/\g.bf≠g.br/\g.bf≠g.bp/\g.bf≠g.bn/\g.bn≠g.br/\g.bn≠g.bp
theorem jI{k:TypeId}{R:Value->Option (DataW Unit×List MemPlace)}{n:Nat}(h:w.ownsMap prog k R b n D)(hk:aa S w w')(hs:¬S b):w'.ownsMap prog k R b n D:=by
 have aw:=h.lt;obtain⟨es,clock,hb,r⟩:=h;exact⟨es,clock,(hk.block b aw hs).trans hb,r⟩
theorem aR.OP{g:RG}{st:RS}(h:aR w g fo st):g.b<w.heap.size:=h.ak.lt
theorem aR.kept{g:RG}{st:RS}(h:aR w g fo st)(k:aa S w w')(hs:∀i,g.use i->¬S i):aR w' g fo st where
 ak:=h.ak.kept k (hs _ (by simp[RG.use]))
 isSome:=h.isSome
 gI i hi:=(k.cell (p:=⟨g.br,i,none⟩) h.nX (hs _ (by simp[RG.use]))).trans (h.gI i hi)
 places i hi:=(k.cell (p:=⟨g.bp,i,none⟩) h.nW (hs _ (by simp[RG.use]))).trans (h.places i hi)
 nX:=Ar h.nX k.size
 nW:=Ar h.nW k.size
 mP:=h.mP
 qQ:=h.qQ
 fm:=by obtain⟨D,hD,hF⟩:=h.fm;exact⟨D,jI hD k (hs _ (by simp[RG.use])),hF⟩
 nm:=by obtain⟨D,hD,hF⟩:=h.nm;exact⟨D,jI hD k (hs _ (by simp[RG.use])),hF⟩
 len:=h.len
 np:=h.np
 next:=h.next
 aQ:=h.aQ
 names:=h.names
 apart:=h.apart
theorem aR.nil{g:RG}{st:RS}(h:aR w g fo st)(k:aa af w w'):aR w' g fo st:=h.kept k (fun _ _ hx=>hx)
theorem aR.Rm{g:RG}{st:RS}(h:aR w g fo st)(m:Nat)(hm:m<=g.rs.length)(hg:st.aQ<=m):aR (w.setCell ⟨g.b,2,none⟩ (.int .i64 m)) g fo {st with next:=m} where
 ak:=h.ak.setCell 2 _
 isSome:=h.isSome
 gI i hi:=by
  rw[Bz (w:=w) (Cr w _ _ g.br (fun e=>h.apart.1 e.symm))];exact h.gI i hi
 places i hi:=by
  rw[Bz (w:=w) (Cr w _ _ g.bp (fun e=>h.apart.2.1 e.symm))];exact h.places i hi
 nX:=by have:=h.nX;simpa[World.setCell]using this
 nW:=by have:=h.nW;simpa[World.setCell]using this
 mP:=h.mP
 qQ:=h.qQ
 fm:=by obtain⟨D,hD,hF⟩:=h.fm;exact⟨D,hD.setCell (a:=⟨g.b,2,none⟩) (fun e=>h.apart.2.2.1 e.symm) _,hF⟩
 nm:=by obtain⟨D,hD,hF⟩:=h.nm;exact⟨D,hD.setCell (a:=⟨g.b,2,none⟩) (fun e=>h.apart.2.2.2.1 e.symm) _,hF⟩
 len:=h.len
 np:=h.np
 next:=hm
 aQ:=hg
 names:=h.names
 apart:=h.apart
theorem aR.Xa{g:RG}{st:RS}(h:aR w g fo st)(f2:Bool):aR (w.setCell ⟨g.b,4,none⟩ (.bool f2)) g f2 st where
 ak:=h.ak.setCell 4 _
 isSome:=h.isSome
 gI i hi:=by
  rw[Bz (w:=w) (Cr w _ _ g.br (fun e=>h.apart.1 e.symm))];exact h.gI i hi
 places i hi:=by
  rw[Bz (w:=w) (Cr w _ _ g.bp (fun e=>h.apart.2.1 e.symm))];exact h.places i hi
 nX:=by have:=h.nX;simpa[World.setCell]using this
 nW:=by have:=h.nW;simpa[World.setCell]using this
 mP:=h.mP
 qQ:=h.qQ
 fm:=by obtain⟨D,hD,hF⟩:=h.fm;exact⟨D,hD.setCell (a:=⟨g.b,4,none⟩) (fun e=>h.apart.2.2.1 e.symm) _,hF⟩
 nm:=by obtain⟨D,hD,hF⟩:=h.nm;exact⟨D,hD.setCell (a:=⟨g.b,4,none⟩) (fun e=>h.apart.2.2.2.1 e.symm) _,hF⟩
 len:=h.len
 np:=h.np
 next:=h.next
 aQ:=h.aQ
 names:=h.names
 apart:=h.apart
theorem yT(g:RG)(i:Nat)(v:Value):aa g.au w (w.setCell ⟨g.b,i,none⟩ v):=(aa.refl _ _).setCell (Or.inl (by simp[RG.au])) v
theorem ad1{g:RG}{st:RS}(h:aR w g fo st):
 Calls prog 84 #[.pointer (some ⟨g.b,0,none⟩)] w fun e w'=>e=.returned (.int .i64 (g.ps.getD st.next 0))/\aa af w w':=by
 have c1:w.cell? ⟨g.b,1,none⟩=some (.slice (some ⟨g.bp,0,none⟩) (g.rs.length+1) g.cp):=h.ak.cell 1;have c2:w.cell? ⟨g.b,2,none⟩=some (.int .i64 st.next):=h.ak.cell 2;have hn:=h.next
 have hl:=h.len;have cp:=h.places st.next (by omega)
 have aw:st.next<g.rs.length+1:=by omega
 clear h;go_in;go_wp2;go_region;all_goals go_wp2
 all_goals go_ret
 all_goals exact⟨rfl,(aa.refl _ _).drew⟩
def ay(g:RG)(st:RS):Int:=g.rs.getD st.next (-1)
theorem No{g:RG}{st:RS}(h:aR w g fo st):
 Calls prog 57 #[.pointer (some ⟨g.b,0,none⟩)] w fun e w'=>e=.returned (.int .i32 (ay g st))/\aa af w w':=by
 have c0:w.cell? ⟨g.b,0,none⟩=some (.slice g.ao g.rs.length g.cr):=h.ak.cell 0;have c2:w.cell? ⟨g.b,2,none⟩=some (.int .i64 st.next):=h.ak.cell 2;have hn:=h.next
 have hl:=h.len;by_cases aw:st.next<g.rs.length
 ·have me:=h.isSome (by omega);rw[me]at c0;have cp:=h.gI st.next aw
  have az:((st.next:Int)==(g.rs.length:Int))=false:=by simp;omega
  have hs:g.rs.getD st.next 0=ay g st:=by simp[ay,List.getD,Ae aw]
  rw[hs]at cp;clear h me hs;go_in;go_wp2;go_region;all_goals go_wp2
  all_goals go_region
  all_goals go_wp2
  all_goals go_ret
  all_goals exact⟨rfl,(aa.refl _ _).drew.drew⟩
 ·have az:((st.next:Int)==(g.rs.length:Int))=true:=by simp;omega
  have hs:ay g st= -1:=by simp[ay,List.getD,Ci (by omega:g.rs.length<=st.next)]
  rw[hs];clear h hs;go_in;go_wp2;go_region;all_goals go_wp2
  all_goals go_ret
  all_goals exact⟨rfl,(aa.refl _ _).drew⟩
theorem aR.JB{g:RG}{st:RS}(h:aR w g fo st)(kX:RS): -1<=ay g kX/\ay g kX<=1114111:=by
 unfold ay;by_cases hl:kX.next<g.rs.length
 ·have e:g.rs.getD kX.next (-1)=g.rs[kX.next]:=by simp[List.getD,Ae hl]
  have:=h.qQ _ (A5 hl);rw[e];omega
 ·have e:g.rs.getD kX.next (-1)= -1:=by simp[List.getD,Ci (by omega:g.rs.length<=kX.next)]
  rw[e];omega
theorem jU{g:RG}{st:RS}{l:List UInt8}(h:aG l (ay g st)=true):st.next<g.rs.length:=by
 apply Dp
 intro hn;have:ay g st= -1:=by simp[ay,List.getD,Ci (by omega:g.rs.length<=st.next)]
 rw[this]at h;unfold aG at h;obtain⟨b,_,hb⟩:=Cp.1 h;have:=Gb.1 hb;omega
theorem Np{g:RG}{st:RS}(h:aR w g fo st)(s:ByteArray)(hs:∀b∈s.data.toList,b.toNat<128):
 Calls prog 107 #[.pointer (some ⟨g.b,0,none⟩),.string s] w fun e w'=>e=.returned (.bool (aG s.data.toList (ay g st)))/\aa af w w':=by
 go_in
 go_wp2_with (first|(go_at_call 57;refine(No h).mono ?_;rintro e w1 ⟨rfl,aT⟩)|(go_at_call 129;refine(ag6 _ _ _ hs).mono ?_;rintro e w2 ⟨rfl,aO⟩))
 go_ret
 exact⟨rfl,aa.trans (by assumption) (by assumption)⟩
def fg(g:RG)(l:List UInt8)(st:RS):RS:=if aG l (ay g st)then{st with next:=st.next+1}else st
theorem Xt{g:RG}{st:RS}(h:aR w g fo st)(s:ByteArray)(hs:∀b∈s.data.toList,b.toNat<128)(hy:aG s.data.toList (ay g st)=true):
 Calls prog 83 #[.pointer (some ⟨g.b,0,none⟩),.string s] w fun e w'=>e=.returned (.bool true)/\aR w' g fo {st with next:=st.next+1}/\aa g.au w w':=by
 have aw:=jU hy;have hl:=h.len;go_in;go_wp2_with fail;refine(Np h s hs).mono ?_;rintro e w1 ⟨rfl,aT⟩;have h1:=h.nil aT;have c2:w1.cell? ⟨g.b,2,none⟩=some (.int .i64 st.next):=h1.ak.cell 2;have f2:=h1.ak.frozen 2;rw[hy];go_wp2_with fail;go_ret;refine⟨rfl,?_,(aT.mono (fun _ hx=>hx.elim)).trans (yT g 2 _)⟩;have:=h1.Rm (st.next+1) (by omega) (by have:=h.aQ;omega);simpa using this
theorem Xs{g:RG}{st:RS}(h:aR w g fo st)(s:ByteArray)(hs:∀b∈s.data.toList,b.toNat<128)(hy:aG s.data.toList (ay g st)=false):
 Calls prog 83 #[.pointer (some ⟨g.b,0,none⟩),.string s] w fun e w'=>e=.returned (.bool false)/\aR w' g fo st/\aa g.au w w':=by
 go_in
 go_wp2_with fail
 refine(Np h s hs).mono ?_;rintro e w1 ⟨rfl,aT⟩;rw[hy];go_wp2_with fail;go_ret;exact⟨rfl,h.nil aT,aT.mono (fun _ hx=>hx.elim)⟩
theorem an_{g:RG}{st:RS}(h:aR w g fo st)(s:ByteArray)(hs:∀b∈s.data.toList,b.toNat<128):
 Calls prog 83 #[.pointer (some ⟨g.b,0,none⟩),.string s] w fun e w'=>e=.returned (.bool (aG s.data.toList (ay g st)))/\aR w' g fo (fg g s.data.toList st)/\aa g.au w w':=by
 unfold fg
 cases hy:aG s.data.toList (ay g st)
 ·exact Xs h s hs hy
 ·exact Xt h s hs hy
theorem xJ(w:World):(zeroValue 3).run prog w=.ok (.int .i64 0) w:=by kernel_rfl
theorem xq:Keyed prog 25:=int_keyed underlying25
theorem rR:Keyed prog 9:=string_keyed underlying9
def RS.eu(st:RS)(e p:Int):RS:={st with bl:=st.bl.eu e p}
theorem aR.Wg{g:RG}{st:RS}(h:aR w g fo st)(F:cO)(hD:w'.ownsMap prog 25 (plainElem (H:=Unit) prog 3) g.bf (Maps.size D) D)(hF:wm D F)
 (k:aa (fun i=>i=g.bf) w w'):aR w' g fo {st with bl:=F} where
 ak:=h.ak.kept k (fun e=>h.apart.2.2.1 e)
 isSome:=h.isSome
 gI i hi:=(k.cell (p:=⟨g.br,i,none⟩) h.nX (fun e=>h.apart.2.2.2.2.1 e.symm)).trans (h.gI i hi)
 places i hi:=(k.cell (p:=⟨g.bp,i,none⟩) h.nW (fun e=>h.apart.2.2.2.2.2.1 e.symm)).trans (h.places i hi)
 nX:=Ar h.nX k.size
 nW:=Ar h.nW k.size
 mP:=h.mP
 qQ:=h.qQ
 fm:=⟨D,hD,hF⟩
 nm:=by obtain⟨D,hD,hF⟩:=h.nm;exact⟨D,jI hD k (fun e=>h.apart.2.2.2.2.2.2.1 e.symm),hF⟩
 len:=h.len
 np:=h.np
 next:=h.next
 aQ:=h.aQ
 names:=h.names
 apart:=h.apart
theorem GM{g:RG}{st:RS}(h:aR w g fo st)(e p:Int)(he:2<=e/\e<=7)(hp:0<=p/\p<=300):
 Calls prog 40 #[.pointer (some ⟨g.b,0,none⟩),.int .i64 e,.int .i64 p] w fun en w'=>en=.returned (.tuple #[])/\aR w' g fo (st.eu e p)/\aa g.au w w':=by
 have c3:w.cell? ⟨g.b,3,none⟩=some (.map (some g.bf)):=h.ak.cell 3;obtain⟨D,hD,hF⟩:=h.fm;have ji:keyOf prog 25 (.int .i64 e)=some (.int .i64 e):=keyOf_int_mk underlying25 (C9 (by omega));have aS:Maps.size D<maxLen:=by rw[hF.size];have:=st.bl.aak;unfold maxLen;omega
 go_in
 go_wp2_with (first|(at_lookup;refine Br _ rfl _ _ 97 rfl 25 3 .i64 xq underlying97 underlying3 (xJ _) g.bf _ D rfl hD _ _ rfl ji ?_;intro c iT yE)|(at_mapUpdate;refine El _ rfl _ _ _ 97 rfl 25 3 xq underlying97 _ g.bf _ _ rfl hD aS _ _ _ rfl rfl ji _ [] (plainElem_int underlying3 (C9 (by omega))) ?_;intro w1 ajj aiL))
 ·have nH:has D (.int .i64 e)=false:=by have:(!has D (.int .i64 e))=true:=by assumption
                                        simpa using this
  rw[hF.has]at nH;have hF':=hF.put (hD.tidy xq) e p he nH;go_end0;refine⟨rfl,?_,?_⟩
  ·have hn:st.eu e p={st with bl:=st.bl.put e p}:=(by simp[RS.eu,cO.eu,nH]);rw[hn];refine h.Wg (D:=D.put (.int .i64 e) (.lit (.int .i64 p))) _ ?_ hF' ((aa.refl _ _).eN (by assumption) (fun k hk=>Or.inl (by cases hk;rfl)));have e1:Maps.size (D.put (.int .i64 e) (.lit (.int .i64 p)))=Maps.size D+1:=(by rw[hF'.size,hF.size,cO.Tt _ _ _ he nH]);rw[e1];assumption
  ·exact(aa.refl _ _).eN (by assumption) (fun k hk=>Or.inl (by cases hk;simp[RG.au]))
 ·have My:has D (.int .i64 e)=true:=by have:(!has D (.int .i64 e))=false:=by assumption
                                       simpa using this
  rw[hF.has]at My;go_end0;refine⟨rfl,?_,aa.refl _ _⟩;have hn:st.eu e p=st:=by simp[RS.eu,cO.eu,My]
  rw[hn];exact h
theorem aR.named{g:RG}{st:RS}(h:aR w g fo st)(l:List (List UInt8×Nat))(hD:w'.ownsMap prog 9 (plainElem (H:=Unit) prog 3) g.bn (Maps.size D) D)(hF:Ic D l)
 (k:aa (fun i=>i=g.bn) w w')(hn:l.length<=st.aQ):aR w' g fo {st with names:=l} where
 ak:=h.ak.kept k (fun e=>h.apart.2.2.2.1 e)
 isSome:=h.isSome
 gI i hi:=(k.cell (p:=⟨g.br,i,none⟩) h.nX (fun e=>h.apart.2.2.2.2.2.2.2.1 e.symm)).trans (h.gI i hi)
 places i hi:=(k.cell (p:=⟨g.bp,i,none⟩) h.nW (fun e=>h.apart.2.2.2.2.2.2.2.2 e.symm)).trans (h.places i hi)
 nX:=Ar h.nX k.size
 nW:=Ar h.nW k.size
 mP:=h.mP
 qQ:=h.qQ
 fm:=by obtain⟨D,hD,hF⟩:=h.fm;exact⟨D,jI hD k (fun e=>h.apart.2.2.2.2.2.2.1 e),hF⟩
 nm:=⟨D,hD,hF⟩
 len:=h.len
 np:=h.np
 next:=h.next
 aQ:=h.aQ
 names:=hn
 apart:=h.apart
def qP(g:RG)(st:RS):Int:=g.ps.getD st.next 0
def G_(g:RG)(st:RS):RS:={st.eu 3 (qP g st)with next:=g.rs.length}
theorem Ni{g:RG}{st:RS}(h:aR w g fo st):
 Calls prog 58 #[.pointer (some ⟨g.b,0,none⟩)] w fun en w'=>en=.returned (.tuple #[])/\aR w' g fo (G_ g st)/\aa g.au w w':=by
 have hp:=h.mP st.next
 go_in
 go_wp2_with fail
 refine(ad1 h).mono ?_;rintro e w1 ⟨rfl,aT⟩;have h1:=h.nil aT;go_wp2_with fail;refine(GM h1 3 _ (by omega) hp).mono ?_;rintro e w2 ⟨rfl,h2,aO⟩;have c0:w2.cell? ⟨g.b,0,none⟩=some (.slice g.ao g.rs.length g.cr):=h2.ak.cell 0;have c2:w2.cell? ⟨g.b,2,none⟩=some (.int .i64 st.next):=h2.ak.cell 2;have f2:=h2.ak.frozen 2;go_wp2_with fail;go_end0;exact⟨rfl,h2.Rm g.rs.length (Ab _) (by have:=h2.aQ;have:=h2.next;omega),((aT.mono (fun _ hx=>hx.elim)).trans aO).trans (yT g 2 _)⟩
def eI(g:RG)(l:List UInt8)(st:RS):RS:=if aG l (ay g st)then{st with next:=st.next+1}else G_ g st
def pT(g:RG)(l:List UInt8)(st:RS):RS:=if ay g st= -1\/aG l (ay g st)=true then G_ g st else{st with next:=st.next+1}
theorem ak4{g:RG}{st:RS}(h:aR w g fo st)(s:ByteArray)(hs:∀b∈s.data.toList,b.toNat<128):
 Calls prog 163 #[.pointer (some ⟨g.b,0,none⟩),.string s] w fun e w'=>e=.returned (.tuple #[])/\aR w' g fo (eI g s.data.toList st)/\aa g.au w w':=by
 unfold eI
 cases hy:aG s.data.toList (ay g st)
 ·go_in
  go_wp2_with fail
  refine(Xs h s hs hy).mono ?_;rintro e w1 ⟨rfl,h1,aT⟩;go_wp2_with fail;refine(Ni h1).mono ?_;rintro e w2 ⟨rfl,h2,aO⟩;go_wp2_with fail;go_end0;exact⟨rfl,by simpa using h2,aT.trans aO⟩
 ·go_in
  go_wp2_with fail
  refine(Xt h s hs hy).mono ?_;rintro e w1 ⟨rfl,h1,aT⟩;go_wp2_with fail;go_end0;exact⟨rfl,by simpa using h1,aT⟩
theorem ak2{g:RG}{st:RS}(h:aR w g fo st)(s:ByteArray)(hs:∀b∈s.data.toList,b.toNat<128):
 Calls prog 136 #[.pointer (some ⟨g.b,0,none⟩),.string s] w fun e w'=>e=.returned (.int .i32 (ay g st))/\aR w' g fo (pT g s.data.toList st)/\aa g.au w w':=by
 unfold pT;have hl:=h.len;by_cases f_:ay g st= -1
 ·rw[if_pos (Or.inl f_)];have hb:(ay g st== -1)=true:=by simp[f_]
  go_in
  go_wp2_with fail
  refine(No h).mono ?_;rintro e w1 ⟨rfl,aT⟩;go_wp2_with fail;refine(Ni (h.nil aT)).mono ?_;rintro e w2 ⟨rfl,h2,aO⟩;go_wp2_with fail;go_ret;exact⟨by rw[f_];rfl,h2,(aT.mono (fun _ hx=>hx.elim)).trans aO⟩
 ·have hb:(ay g st== -1)=false:=by simp[f_]
  have aw:st.next<g.rs.length:=by
   apply Dp
   intro hn;exact f_ (by simp[ay,List.getD,Ci (by omega:g.rs.length<=st.next)])
  cases hy:aG s.data.toList (ay g st)
  ·rw[if_neg (by simp[f_])];go_in;go_wp2_with fail;refine(No h).mono ?_;rintro e w1 ⟨rfl,aT⟩;have h1:=h.nil aT;go_wp2_with fail;refine(Np h1 s hs).mono ?_;rintro e w2 ⟨rfl,aO⟩;have h2:=h1.nil aO;have c2:w2.cell? ⟨g.b,2,none⟩=some (.int .i64 st.next):=h2.ak.cell 2;have f2:=h2.ak.frozen 2;rw[hy];go_wp2_with fail;go_ret;refine⟨rfl,?_,((aT.trans aO).mono (fun _ hx=>hx.elim)).trans (yT g 2 _)⟩;have:=h2.Rm (st.next+1) (by omega) (by have:=h.aQ;omega);simpa using this
  ·rw[if_pos (Or.inr rfl)];go_in;go_wp2_with fail;refine(No h).mono ?_;rintro e w1 ⟨rfl,aT⟩;have h1:=h.nil aT;go_wp2_with fail;refine(Np h1 s hs).mono ?_;rintro e w2 ⟨rfl,aO⟩;have h2:=h1.nil aO;rw[hy];go_wp2_with fail;refine(Ni h2).mono ?_;rintro e w3 ⟨rfl,h3,bA⟩;go_wp2_with fail;go_ret;exact⟨rfl,h3,((aT.trans aO).mono (fun _ hx=>hx.elim)).trans bA⟩
def vP:List UInt8:=[48,49,50,51,52,53,54,55,56,57]
def MM:List UInt8:=[44]
def vO:List UInt8:=[125]
def MN:List UInt8:=[123]
def acy:List UInt8:=[92,91,93,94,45]
def GH:List UInt8:=[46,94,36,124,63,42,43,40,41,91,93,123,125,45,47,92,110,116,114]
def qK:List UInt8:=[46,94,36,124,63,42,43,40,41,91,93,123,125,45,47,92,110,116,114,100,68,119,87,115,83,98,66]
def gj:List UInt8:=[92]
def mq:List UInt8:=[100,119,115]
def xo:List UInt8:=[45]
def td:List UInt8:=[94]
def pR:List UInt8:=[93]
def MO:List UInt8:=[91]
def oz:List UInt8:=[97,98,99,100,101,102,103,104,105,106,107,108,109,110,111,112,113,114,115,116,117,118,119,120,121,122]
def Jl:List UInt8:=[62]
def BJ:List UInt8:=[60]
def iq:List UInt8:=[63]
def MR:List UInt8:=[42]
def MP:List UInt8:=[43]
def vN:List UInt8:=[124]
def Jn:List UInt8:=[41]
def Jm:List UInt8:=[40]
def uj:List UInt8:=[124,41]
def lI:List UInt8:=[105]
def GG:List UInt8:=[58]
def QE:List UInt8:=[46,94,36]
def QD:List UInt8:=[92,46,94,36,124,63,42,43,40,41,91,123]
def jo(g:RG)(st:RS):RS×Int:=if aG vP (ay g st)then({st with next:=st.next+1},ay g st-48)else(G_ g st,0)
def fA(g:RG)(st:RS):RS×Int:=
 if 0<(jo g st).2/\aG vP (ay g (jo g st).1)=true then((jo g (jo g st).1).1,10*(jo g st).2+(jo g (jo g st).1).2)else jo g st
def r_(g:RG)(st:RS):RS×Int:=if aG vO (ay g st)then(st,-1)else fA g st
def ey(g:RG)(st:RS):RS×Int×Int:=
 if aG MM (ay g (fA g st).1)then
  (eI g vO (r_ g {(fA g st).1 with next:=(fA g st).1.next+1}).1,(fA g st).2,(r_ g {(fA g st).1 with next:=(fA g st).1.next+1}).2)
 else(eI g vO (fA g st).1,(fA g st).2,(fA g st).2)
def qp(c:Int):Int:=if c=110 then 10 else if c=116 then 9 else if c=114 then 13 else c
def lQ(g:RG)(qo:Bool)(st:RS):RS×Int:=if qo then(eI g GH st,qp (ay g st))else(pT g acy st,ay g st)
def dd(g:RG)(st:RS):RS×Int:=lQ g (aG gj (ay g st)) (fg g gj st)
def qN(g:RG)(place:Int)(x:RS×Int):RS:=
 if aG xo (ay g x.1)then
  if(dd g {x.1 with next:=x.1.next+1}).2<x.2 then(dd g {x.1 with next:=x.1.next+1}).1.eu 5 place else(dd g {x.1 with next:=x.1.next+1}).1
 else x.1
def fT(g:RG)(st:RS):RS:=
 if aG gj (ay g st)=true/\aG mq (ay g {st with next:=st.next+1})=true then{st with next:=st.next+2}
 else qN g (qP g st) (dd g st)
def mw(g:RG):Nat->RS->RS
 |0,st=>st
 |m+1,st=>if ay g st= -1\/aG pR (ay g st)=true then st else mw g m (fT g st)
def rZ(g:RG)(st:RS):RS:=eI g pR (mw g (g.rs.length+1) (fT g (fg g td st)))
def ly(g:RG)(first:Nat):Nat->RS->RS
 |0,st=>st
 |m+1,st=>if st.next<first+8/\aG oz (ay g st)=true then ly g first m {st with next:=st.next+1}else st
def JA(l:List Int):List UInt8:=(runesBytes l).data.toList
def mO(g:RG)(first:Nat)(st:RS):RS:=
 if st.names.any (fun p=>p.1==JA ((g.rs.take st.next).drop first))then st.eu 6 (g.ps.getD first 0)
 else{st with names:=(JA ((g.rs.take st.next).drop first),st.aQ)::st.names}
def pg(g:RG)(st:RS):RS:=eI g Jl (mO g st.next (ly g st.next (g.rs.length+9) (eI g oz st)))
inductive PT where
 |node (kind:Int) (parts:List PT) (low high:Int):PT
mutual
def PT.size:PT->Int
 |.node k ps lo hi=>
  let s:=PT.lB ps
  min (if k=0\/k=1 then s+1 else if k=3 then s+(ps.length-1:Int)else if k=4 then(if hi= -1 then lo+1 else hi)*(s+1)else s) 1001
def PT.lB:List PT->Int
 | []=>0
 |p::ps=>PT.size p+PT.lB ps
end
def h_(g:RG)(a:PT)(st:RS):RS×PT:=
 if aG MR (ay g st)then(fg g iq {st with next:=st.next+1},.node 4 [a] 0 (-1))
 else if aG MP (ay g st)then(fg g iq {st with next:=st.next+1},.node 4 [a] 1 (-1))
 else if aG iq (ay g st)then(fg g iq {st with next:=st.next+1},.node 4 [a] 0 1)
 else if aG MN (ay g st)then
  let x:=ey g {st with next:=st.next+1}
  (fg g iq (if x.2.1>20\/x.2.2>20\/(x.2.2≠ -1/\x.2.2<x.2.1)then x.1.eu 4 (qP g st)else x.1),.node 4 [a] x.2.1 x.2.2)
 else(st,a)
def ix(g:RG)(st:RS):RS:=
 if aG iq (ay g st)=false then{st with aQ:=st.aQ+1}
 else if aG BJ (ay g {st with next:=st.next+1})then pg g {st with next:=st.next+2,aQ:=st.aQ+1}
 else eI g GG (fg g lI {st with next:=st.next+1})
def vU(g:RG)(aE:RS->RS×PT)(st:RS):RS×PT:=(eI g Jn (aE (ix g st)).1,.node 1 [(aE (ix g st)).2] 0 0)
def mR:PT:=.node 0 [] 0 0
def dt(g:RG)(aE:RS->RS×PT)(st:RS):RS×PT:=
 if aG Jm (ay g st)then vU g aE {st with next:=st.next+1}
 else if aG MO (ay g st)then(rZ g {st with next:=st.next+1},mR)
 else if aG gj (ay g st)then(eI g qK {st with next:=st.next+1},mR)
 else if aG QE (ay g st)then({st with next:=st.next+1},mR)
 else(pT g QD st,mR)
def jq(g:RG)(aE:RS->RS×PT):Nat->RS->List PT->RS×List PT
 |0,st,aC=>(st,aC)
 |m+1,st,aC=>
  if ay g st= -1\/aG uj (ay g st)=true then(st,aC)
  else jq g aE m (h_ g (dt g aE st).2 (dt g aE st).1).1 (aC++[(h_ g (dt g aE st).2 (dt g aE st).1).2])
def eD(g:RG)(aE:RS->RS×PT)(st:RS):RS×PT:=((jq g aE (g.rs.length+1) st []).1,.node 2 (jq g aE (g.rs.length+1) st []).2 0 0)
def iw(g:RG)(aE:RS->RS×PT):Nat->RS->List PT->RS×List PT
 |0,st,aC=>(st,aC)
 |m+1,st,aC=>
  if aG vN (ay g st)then iw g aE m (eD g aE {st with next:=st.next+1}).1 (aC++[(eD g aE {st with next:=st.next+1}).2])else(st,aC)
def aV(g:RG):Nat->RS->RS×PT
 |0,st=>(st,mR)
 |k+1,st=>((iw g (aV g k) (g.rs.length+1) (eD g (aV g k) st).1 [(eD g (aV g k) st).2]).1,.node 3 (iw g (aV g k) (g.rs.length+1) (eD g (aV g k) st).1 [(eD g (aV g k) st).2]).2 0 0)
def ee(g:RG)(st:RS):RS×PT:=
 if ay g (aV g (g.rs.length+1) st).1= -1 then aV g (g.rs.length+1) st else(G_ g (aV g (g.rs.length+1) st).1,(aV g (g.rs.length+1) st).2)
theorem anu{g:RG}{st:RS}(h:g.rs.length<=st.next):ay g st= -1:=by simp[ay,List.getD,Ci h]
theorem V3{g:RG}{st:RS}(h:ay g st≠ -1):st.next<g.rs.length:=by
 apply Dp
 intro hn;exact h (anu (by omega))
theorem VD{r:Int}(h:aG vP r=true):48<=r/\r<=57:=by
 simp[aG,vP]at h
 omega
end Go.Proofs.YtpdnofhackjfdaaGreatDoor
