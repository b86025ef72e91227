/- Words on memory -/
import Derived.Test.YtpdnofhackjfdaaGreatDoorP00
set_option linter.all false
set_option maxRecDepth 100000
set_option maxHeartbeats 2000000
namespace Go.Proofs.YtpdnofhackjfdaaGreatDoor
open Go.Proofs.Tryz
open Go.RowKit
variable {p:Addr} {cs:Array Value} {fo:Bool} {D:DataW Unit} {b:Nat} {S S':Nat->Prop} {t:TypeId} {a c w w':World}
structure aa(S:Nat->Prop)(w w':World):Prop where
 os:w'.os=w.os
 tape:w'.tape=w.tape
 output:w'.output=w.output
 size:w.heap.size<=w'.heap.size
 block:∀k,k<w.heap.size->¬S k->w'.heap[k]? =w.heap[k]?
def ai:Nat->Prop:=fun _=>False
theorem aa.refl(S:Nat->Prop)(w:World):aa S w w:=⟨rfl,rfl,rfl,Ab _,fun _ _ _=>rfl⟩
theorem aa.trans{b:World}(h:aa S a b)(k:aa S b c):aa S a c:=
 ⟨k.os.trans h.os,k.tape.trans h.tape,k.output.trans h.output,Bh h.size k.size,fun i hi hs=>(k.block i (Ar hi h.size) hs).trans (h.block i hi hs)⟩
theorem aa.b_{b:World}(h:aa S a b)(k:aa S' b c)(hs:∀i,i<a.heap.size->S' i->S i):aa S a c:=
 ⟨k.os.trans h.os,k.tape.trans h.tape,k.output.trans h.output,Bh h.size k.size,fun i hi hn=>(k.block i (Ar hi h.size) (fun h'=>hn (hs i hi h'))).trans (h.block i hi hn)⟩
theorem aa.mono(h:aa S w w')(hs:∀i,S i->S' i):aa S' w w':=
 ⟨h.os,h.tape,h.output,h.size,fun k hk hn=>h.block k hk (fun h'=>hn (hs k h'))⟩
theorem aa.drew(h:aa S a w):aa S a w.drew:=⟨h.os,h.tape,h.output,h.size,h.block⟩
theorem aa.drewN(h:aa S a w)(n:Nat):aa S a (w.drewN n):=⟨h.os,h.tape,h.output,h.size,h.block⟩
theorem aa.alloc(h:aa S a w)(o:Obj):aa S a (w.alloc o):=
 ⟨h.os,h.tape,h.output,by have:=h.size;simp;omega,fun k hk hs=>(Below.heap_alloc w o k (Ar hk h.size)).trans (h.block k hk hs)⟩
theorem aa.setCell(h:aa S a w)(hp:S p.block\/a.heap.size<=p.block)(u:Value):aa S a (w.setCell p u):=
 ⟨h.os,h.tape,h.output,by have:=h.size;simp[World.setCell];omega,fun k hk hs=>(Cx w p u k (by
   intro e;subst e;rcases hp with hp|hp
   ·exact hs hp
   ·omega)).trans (h.block k hk hs)⟩
theorem aa.eP{row:Option Nat}(h:aa S a w)(hg:w.grownBy w' row)(hr:∀k,row=some k->S k\/a.heap.size<=k):aa S a w':=
 ⟨hg.os.trans h.os,hg.tape.trans h.tape,hg.output.trans h.output,Bh h.size hg.size,fun k hk hs=>(hg.block k (Ar hk h.size) (fun e=>by
   rcases hr k e.symm with hp|hp
   ·exact hs hp
   ·omega)).trans (h.block k hk hs)⟩
theorem aa.below(h:aa S w w'){B:Nat}(hB:B<=w.heap.size)(hs:∀k,k<B->¬S k):Below B w w':=
 ⟨h.os,h.tape,h.output,h.size,fun k hk=>h.block k (Ar hk hB) (hs k hk)⟩
theorem aa.cell(h:aa S w w')(hp:p.block<w.heap.size)(hs:¬S p.block):w'.cell? p=w.cell? p:=Cc (w:=w) (h.block p.block hp hs)
theorem aa.frozen(h:aa S w w')(hp:p.block<w.heap.size)(hs:¬S p.block):w'.frozen? p=w.frozen? p:=World.frozen?_of_block (w:=w) (h.block p.block hp hs)
def au(w:World)(b:Nat)(cs:Array Value)(t:TypeId):Prop:=w.heap[b]? =some (.cells cs t (0,0))
theorem au.lt(h:au w b cs t):b<w.heap.size:=by
 unfold au at h;exact(Am.1 h).1
theorem au.cell(h:au w b cs t)(i:Nat):w.cell? (GB b i)=cs[i]? :=by
 unfold au at h;simp[World.cell?,h]
theorem au.frozen(h:au w b cs t)(i:Nat):w.frozen? (GB b i)=false:=by
 unfold au at h;simp[World.frozen?,h]
theorem au.kept(h:au w b cs t)(k:aa S w w')(hs:¬S b):au w' b cs t:=(k.block b h.lt hs).trans h
theorem au.setCell(h:au w b cs t)(i:Nat)(v:Value):au (w.setCell (GB b i) v) b (cs.setIfInBounds i v) t:=by
 unfold au at*;have hb:=(Am.1 h).1;simp only[World.setCell,Ek];simp[h]
theorem au.qw(h:au w b cs t)(hp:b≠p.block)(v:Value):au (w.setCell p v) b cs t:=(Cx w p v b hp).trans h
theorem au.alloc(h:au w b cs t)(o:Obj):au (w.alloc o) b cs t:=(Below.heap_alloc w o b h.lt).trans h
theorem au.new(w:World)(cs:Array Value)(t:TypeId):au (w.alloc (.cells cs t (0,0))) w.heap.size cs t:=by
 show(w.heap.push _)[w.heap.size]? =_
 simp
theorem au.drew(h:au w b cs t):au w.drew b cs t:=h
def aK(l:List UInt8)(r:Int):Bool:=l.any fun b=>(b.toNat:Int)==r
theorem aky(s:ByteArray)(c:Int)(w:World):
 Calls prog 191 #[.string s,.int .u8 c] w fun e w'=>e=.returned (.int .i64 (Lib.indexByte s.data.toList c.toNat.toUInt8))/\w'=w:=by
 go_in
 go_wp2
 rw[run_callFunc_extern func201 (by kernel_rfl) (by kernel_rfl) (by kernel_rfl) (e:=Extern.BytealgIndexByte.indexByte) (by kernel_rfl),Lib.run_indexByteString];simp only[Result.andThen];rw[Oper.upon_value];go_wp2;go_ret;exact⟨rfl,rfl⟩
theorem acV(s:ByteArray)(c:Int)(w:World):
 Calls prog 180 #[.string s,.int .u8 c] w fun e w'=>e=.returned (.int .i64 (Lib.indexByte s.data.toList c.toNat.toUInt8))/\w'=w:=by
 go_in
 go_wp2_with (go_at_call 191;refine(aky _ _ _).mono ?_;rintro e w' ⟨rfl,rfl⟩)
 go_ret
 exact⟨rfl,rfl⟩
def z_(r:Int):Bool:=decide ((0<=r/\r<55296)\/(57343<r/\r<=1114111))
theorem YW(r:Int)(w:World):Calls prog 181 #[.int .i32 r] w fun e w'=>e=.returned (.bool (z_ r))/\w'=w:=by
 go_in
 go_wp2
 all_goals go_ret
 all_goals refine⟨?_,rfl⟩
 all_goals(congr 2;simp[z_];omega)
theorem akv(l:List UInt8)(r:Int)(h0:0<=r)(h1:r<128):(decide (0<=Lib.indexByte l r.toNat.toUInt8))=aK l r:=by
 induction l with
 |nil=>simp[Lib.indexByte,aK]
 |cons b l ih=>
  have gW:=Lib.indexByte_ge l r.toNat.toUInt8
  have hc:(b==r.toNat.toUInt8)=((b.toNat:Int)==r):=by
   have hb:=b.toNat_lt;rw[Bi];simp only[Gj];constructor
   ·intro e;rw[e];simp;omega
   ·intro e;apply UInt8.toNat.inj;simp;omega
  have hi:aK (b::l) r=(((b.toNat:Int)==r)||aK l r):=by simp[aK]
  rw[hi,<-ih,<-hc];have hu:Lib.indexByte (b::l) r.toNat.toUInt8=if b==r.toNat.toUInt8 then 0 else if Lib.indexByte l r.toNat.toUInt8== -1 then-1 else Lib.indexByte l r.toNat.toUInt8+1:=rfl
  rw[hu];generalize Lib.indexByte l r.toNat.toUInt8=x at*
  cases hb:(b==r.toNat.toUInt8)
  ·by_cases hx:x= -1
   ·simp[hx]
   ·simp[hx];omega
  ·simp
theorem akz(s:ByteArray)(r:Int)(w:World)(h0:0<=r)(h1:r<128):
 Calls prog 161 #[.string s,.int .i32 r] w fun e w'=>e=.returned (.int .i64 (Lib.indexByte s.data.toList r.toNat.toUInt8))/\w'=w:=by
 go_in
 go_wp2_with (go_at_call 180;refine(acV _ _ _).mono ?_;rintro e w' ⟨rfl,rfl⟩)
 go_ret
 exact⟨rfl,rfl⟩
theorem akA(s:ByteArray)(r:Int)(w:World)(hv:z_ r=false):
 Calls prog 161 #[.string s,.int .i32 r] w fun e w'=>e=.returned (.int .i64 (-1))/\w'=w:=by
 have hr:r<0\/55296<=r:=by simp[z_]at hv;omega
 have aB:(r==65533)=false:=by simp[z_]at hv;simp;omega
 rcases hr with hr|hr
 ·go_in
  go_wp2_with (go_at_call 181;refine(YW _ _).mono ?_;rintro e w' ⟨rfl,rfl⟩)
  go_ret
  exact⟨rfl,rfl⟩
 ·go_in
  go_wp2_with (go_at_call 181;refine(YW _ _).mono ?_;rintro e w' ⟨rfl,rfl⟩)
  go_ret
  exact⟨rfl,rfl⟩
theorem akB(s:ByteArray)(w:World)(hs:∀b∈s.data.toList,b.toNat<128):
 Calls prog 161 #[.string s,.int .i32 65533] w fun e w'=>e=.returned (.int .i64 (-1))/\aa ai w w':=by
 go_in
 go_wp2_with fail
 go_loopw [5] (fun _ wr=>∃k:Nat,k<=s.size/\wr=w.iter s k) (fun _ wr=>s.size-wr.iterPos w.heap.size)
 case atStart=>exact⟨0,Al _,rfl⟩
 case round=>
  obtain⟨k,hk,rfl⟩:=hrel;by_cases az:k<s.size
  ·have hb:=hs s[k] (by exact Array.getElem_mem_toList (xs:=s.data) az);have hn:=(fun ty=>run_next_ascii (P:=prog) w s k ty az hb);have aB:(((s[k]).toNat:Int)==65533)=false:=by simp;omega
   go_wp2_with fail
   go_roundw
   case rel=>exact⟨k+1,by omega,rfl⟩
   case measure=>simp;omega
  ·have hn:=(fun ty=>run_next_end (P:=prog) w s k ty az);go_wp2_with fail;go_ret;exact⟨rfl,(aa.refl _ _).alloc _⟩
theorem akx(l:List UInt8)(c:UInt8)(h:∀b∈l,b.toNat<128)(hc:128<=c.toNat):Lib.indexByte l c<0:=by
 induction l with
 |nil=>simp[Lib.indexByte]
 |cons b l ih=>
  have hb:=h b (by simp)
  have aB:(b==c)=false:=by
   cases hx:(b==c)
   ·rfl
   ·have:=Gj.1 hx;rw[this]at hb;omega
  have i:=ih (fun x hx=>h x (by simp[hx]));have hu:Lib.indexByte (b::l) c=if b==c then 0 else if Lib.indexByte l c== -1 then-1 else Lib.indexByte l c+1:=rfl
  have gW:=Lib.indexByte_ge l c;have e:Lib.indexByte l c= -1:=by omega
  rw[hu,aB,e];simp
theorem akC(s:ByteArray)(r:Int)(w:World)(hs:∀b∈s.data.toList,b.toNat<128)(hv:z_ r=true)(h:128<=r)(aB:(r==65533)=false):
 Calls prog 161 #[.string s,.int .i32 r] w fun e w'=>e=.returned (.int .i64 (-1))/\aa ai w w':=by
 have RL:Utf8.valid r=true:=by simp[z_]at hv;simp[Utf8.valid];omega
 obtain⟨e2,e4,el⟩:=encode_facts r RL h;have uC:=el (by omega);have az:((Utf8.encode r).size:Int)-1<((Utf8.encode r).size:Int):=by omega
 clear RL;go_in;go_wp2_with (go_at_call 181;refine(YW _ _).mono ?_;rintro e w' ⟨rfl,rfl⟩);go_step3;go_wp2_with fail;refine wp_loop_rounds 1 ?_;rw[rounds_succ];by_cases aW:((Utf8.encode r).size:Int)-1<(s.size:Int)
 ·go_wp2_with fail
  go_step3
  go_wp2_with fail
  have hE1:0<=((Utf8.encode r).size:Int)-1:=by omega
  have hL:(Utf8.encode r).size-1<(Utf8.encode r).size:=by omega
  have hE2:(1:Int)<=((Utf8.encode r).size:Int):=by omega
  have hS:(Utf8.encode r).size-1<s.size:=by omega
  have xO:=hs (s[(Utf8.encode r).size-1]) (by exact Array.getElem_mem_toList (xs:=s.data) hS);have hN:(((Utf8.encode r).size:Int)-1).toNat=(Utf8.encode r).size-1:=by omega
  go_region
  all_goals go_wp2_with fail
  have DA:IntKind.i64.wrap ((Utf8.encode r).size:Int)=((Utf8.encode r).size:Int):=wrap_small _ (by omega) (by omega);have kY:(Utf8.encode r).size<=s.size:=by omega
  obtain⟨w2,ql⟩:∃w2,w2=w'.drew:=⟨_,rfl⟩
  have aS:aa ai w' w2:=by rw[ql];exact(aa.refl _ _).drew
  rw[<-ql];clear ql;go_quiet ((go_at_call 180;go_must (exact As (acV _ _ _))))
  have ajw:Lib.indexByte (List.take (s.size-(Utf8.encode r).size) (List.drop (Utf8.encode r).size s.data.toList)) (Utf8.encode r)[(Utf8.encode r).size-1]<0:=
   akx _ _ (fun b hb=>hs b (Fr (Cs hb))) uC
  go_wp2_with fail
  rw[Exit.noGoto_ret];go_wp2_with fail;rw[Exit.noGoto_ret];go_wp2_with fail;go_ret;exact⟨rfl,aS.drewN _⟩
 ·go_wp2_with fail
  go_ret
  exact⟨rfl,aa.refl _ _⟩
theorem ahT(s:ByteArray)(r:Int)(w:World)(hs:∀b∈s.data.toList,b.toNat<128):
 Calls prog 129 #[.string s,.int .i32 r] w fun e w'=>e=.returned (.bool (aK s.data.toList r))/\aa ai w w':=by
 have key:∃i:Int,decide (0<=i)=aK s.data.toList r/\Calls prog 161 #[.string s,.int .i32 r] w fun e w'=>e=.returned (.int .i64 i)/\aa ai w w':=by
  have aka:¬(0<=r/\r<128)->aK s.data.toList r=false:=by
   intro hr;unfold aK;rw[List.any_eq_false];intro b hb;have:=hs b hb;simp;omega
  by_cases h1:0<=r/\r<128
  ·exact⟨_,akv _ _ h1.1 h1.2,(akz s r w h1.1 h1.2).mono fun e w' ⟨he,hw⟩=>⟨he,hw▸aa.refl _ _⟩⟩
  ·refine⟨-1,by rw[aka h1];decide,?_⟩
   cases hv:z_ r
   ·exact(akA s r w hv).mono fun e w' ⟨he,hw⟩=>⟨he,hw▸aa.refl _ _⟩
   ·have h0:128<=r:=by simp[z_]at hv;omega
    by_cases he:r=65533
    ·subst he;exact akB s w hs
    ·exact akC s r w hs hv h0 (by simp[he])
 obtain⟨i,hi,hc⟩:=key;go_in;go_wp2_with (go_at_call 161;refine hc.mono ?_;rintro e w' ⟨rfl,hk⟩);go_ret;exact⟨rfl,by assumption⟩
theorem aji(s p:ByteArray)(w:World):
 Calls prog 55 #[.string s,.string p] w fun e w'=>e=.returned (.bool (Lib.hasPrefix s.data.toList p.data.toList))/\aa ai w w':=by
 rw[<-Lib.hasPrefix_of_take,<-E0,<-E0];go_in;go_wp2
 ·rename_i h
  go_ret
  refine⟨?_,aa.refl _ _⟩;show Ending.returned (Value.bool ((s.extract 0 p.size).toList==p.toList))=_
  rw[Lib.extract_toList,Lib.toList_data];simp[h]
 ·rename_i h
  go_ret
  refine⟨?_,aa.refl _ _⟩;show Ending.returned (Value.bool false)=_
  simp[h]
open Go.Maps
structure cV where
 bF:Option Int
 form:Option Int
 rep:Option Int
 cls:Option Int
 DO:Option Int
 vF:Option Int
def cV.get(f:cV)(e:Int):Option Int:=
 if e=2 then f.bF else if e=3 then f.form else if e=4 then f.rep else if e=5 then f.cls else if e=6 then f.DO else if e=7 then f.vF else none
def cV.put(f:cV)(e:Int)(p:Int):cV:=
 if e=2 then{f with bF:=some p}else if e=3 then{f with form:=some p}else if e=4 then{f with rep:=some p}else if e=5 then{f with cls:=some p}
 else if e=6 then{f with DO:=some p}else if e=7 then{f with vF:=some p}else f
def cV.eN(f:cV)(e:Int)(p:Int):cV:=if(f.get e).isSome then f else f.put e p
def zF(o:Option Int):Nat:=if o.isSome then 1 else 0
def cV.vI(f:cV):Nat:=zF f.bF+zF f.form+zF f.rep+zF f.cls+zF f.DO+zF f.vF
theorem Kl(o:Option Int):zF o<=1:=by unfold zF;split<;>omega
theorem cV.aa0(f:cV):f.vI<=6:=by
 have:=Kl f.bF;have:=Kl f.form;have:=Kl f.rep;have:=Kl f.cls;have:=Kl f.DO;have:=Kl f.vF;unfold cV.vI;omega
theorem cV.abS(f:cV)(e e' p:Int)(h:2<=e/\e<=7):(f.put e p).get e'=if e'=e then some p else f.get e':=by
 have:e=2\/e=3\/e=4\/e=5\/e=6\/e=7:=by omega
 rcases this with rfl|rfl|rfl|rfl|rfl|rfl<;>simp[cV.put,cV.get]<;>(repeat' split)<;>first|rfl|omega|simp_all
theorem cV.UR(f:cV)(e p:Int)(h:2<=e/\e<=7)(hn:(f.get e).isSome=false):(f.put e p).vI=f.vI+1:=by
 have:e=2\/e=3\/e=4\/e=5\/e=6\/e=7:=by omega
 rcases this with rfl|rfl|rfl|rfl|rfl|rfl<;>simp[cV.get]at hn<;>simp[cV.put,cV.vI,zF,hn]<;>omega
structure wY(D:DataW Unit)(F:cV):Prop where
 isMap:IsMap D
 has:∀e,Maps.has D (.int .i64 e)=(F.get e).isSome
 val:∀e p,F.get e=some p->D.atKey (.int .i64 e) (.lit (.int .i64 0))=.lit (.int .i64 p)
 size:Maps.size D=F.vI
structure I8(D:DataW Unit)(l:List (List UInt8×Nat)):Prop where
 isMap:IsMap D
 has:∀s,Maps.has D (.string s)=l.any (fun p=>p.1==s)
 val:∀s k,(s,k) ∈l->D.atKey (.string s) (.lit (.int .i64 0))=.lit (.int .i64 k)
 size:Maps.size D=l.length
theorem acZ(e:Int):WideAt.IsKeyLit (.int .i64 e):=by simp[WideAt.IsKeyLit]
theorem ac0(s:List UInt8):WideAt.IsKeyLit (.string s):=by simp[WideAt.IsKeyLit]
theorem wY.put{F:cV}(h:wY D F)(ht:Tidy D)(e p:Int)(he:2<=e/\e<=7)(hn:(F.get e).isSome=false):wY (D.put (.int .i64 e) (.lit (.int .i64 p))) (F.put e p) where
 isMap:=h.isMap.put _ _
 has e':=by
  rw[cV.abS F e e' p he];by_cases x:e'=e
  ·subst x;simp[has_put_same h.isMap (acZ _)]
  ·rw[has_put_other (by simpa using x),h.has];simp[x]
 val e' q hq:=by
  rw[cV.abS F e e' p he]at hq;by_cases x:e'=e
  ·subst x;simp at hq;subst hq;exact atKey_put_same h.isMap (acZ _) _ _
  ·rw[if_neg x]at hq;rw[atKey_put_other (by simpa using x)];exact h.val e' q hq
 size:=by
  rw[Maps.size_put ht,h.has,hn,if_neg (by simp),h.size,cV.UR F e p he hn]
theorem I8.put{l:List (List UInt8×Nat)}(h:I8 D l)(ht:Tidy D)(s:List UInt8)(k:Nat)(hn:l.any (fun p=>p.1==s)=false):I8 (D.put (.string s) (.lit (.int .i64 k))) ((s,k)::l) where
 isMap:=h.isMap.put _ _
 has s':=by
  by_cases x:s'=s
  ·subst x;simp[has_put_same h.isMap (ac0 _)]
  ·rw[has_put_other (by simpa using x),h.has];have:(s==s')=false:=by simp;exact fun e=>x e.symm
   simp[this]
 val s' q hq:=by
  by_cases x:s'=s
  ·subst x;rcases Ct.1 hq with hq|hq
   ·cases hq;exact atKey_put_same h.isMap (ac0 _) _ _
   ·exfalso
    have:=List.any_eq_false.1 hn _ hq;simp at this
  ·rw[atKey_put_other (by simpa using x)];rcases Ct.1 hq with hq|hq
   ·cases hq;exact absurd rfl x
   ·exact h.val s' q hq
 size:=by
  rw[Maps.size_put ht,h.has,hn,if_neg (by simp),h.size];simp
structure RG where
 b:Nat
 ao:Option Addr
 br:Nat
 cr:Nat
 bp:Nat
 cp:Nat
 bf:Nat
 bn:Nat
 rs:List Int
 ps:List Int
structure RS where
 next:Nat
 bA:cV
 aT:Nat
 names:List (List UInt8×Nat)
def RG.ay(g:RG):Nat->Prop:=fun k=>k=g.b\/k=g.bf\/k=g.bn
def RG.use(g:RG):Nat->Prop:=fun k=>k=g.b\/k=g.bf\/k=g.bn\/k=g.br\/k=g.bp
def ahw(g:RG)(fo:Bool)(st:RS):Array Value:=
 #[.slice g.ao g.rs.length g.cr,.slice (some (GB g.bp 0)) (g.rs.length+1) g.cp,.int .i64 st.next,.map (some g.bf),.bool fo,.int .i64 st.aT,.map (some g.bn)]
structure aV(w:World)(g:RG)(fo:Bool)(st:RS):Prop where
 aq:au w g.b (ahw g fo st) 99
 isSome:0<g.rs.length->g.ao=some (GB g.br 0)
 gS:∀i,i<g.rs.length->w.cell? (GB g.br i)=some (.int .i32 (g.rs.getD i 0))
 places:∀i,i<g.rs.length+1->w.cell? (GB g.bp i)=some (.int .i64 (g.ps.getD i 0))
 ow:g.br<w.heap.size
 ou:g.bp<w.heap.size
 ni:∀i,0<=g.ps.getD i 0/\g.ps.getD i 0<=300
 rC:∀r∈g.rs,0<=r/\r<=1114111
 fm:∃D,w.ownsMap prog 25 (plainElem (H:=Unit) prog 3) g.bf (Maps.size D) D/\wY D st.bA
 nm:∃D,w.ownsMap prog 9 (plainElem (H:=Unit) prog 3) g.bn (Maps.size D) D/\I8 D st.names
 len:g.rs.length<=300
 nM:g.rs.length<=g.cr
 next:st.next<=g.rs.length
 aT:st.aT<=st.next
 names:st.names.length<=st.aT
 apart:g.b≠g.br/\g.b≠g.bp/\g.b≠g.bf/\g.b≠g.bn/\g.bf≠g.br/\g.bf≠g.bp/\g.bf≠g.bn/\g.bn≠g.br/\g.bn≠g.bp
theorem jQ{k:TypeId}{R:Value->Option (DataW Unit×List MemPlace)}{n:Nat}(h:w.ownsMap prog k R b n D)(hk:aa S w w')(hs:¬S b):w'.ownsMap prog k R b n D:=by
 have az:=h.lt;obtain⟨es,clock,hb,r⟩:=h;exact⟨es,clock,(hk.block b az hs).trans hb,r⟩
theorem aV.Qp{g:RG}{st:RS}(h:aV w g fo st):g.b<w.heap.size:=h.aq.lt
theorem aV.kept{g:RG}{st:RS}(h:aV w g fo st)(k:aa S w w')(hs:∀i,g.use i->¬S i):aV w' g fo st where
 aq:=h.aq.kept k (hs _ (by simp[RG.use]))
 isSome:=h.isSome
 gS i hi:=(k.cell (p:=(GB g.br i)) h.ow (hs _ (by simp[RG.use]))).trans (h.gS i hi)
 places i hi:=(k.cell (p:=(GB g.bp i)) h.ou (hs _ (by simp[RG.use]))).trans (h.places i hi)
 ow:=Ar h.ow k.size
 ou:=Ar h.ou k.size
 ni:=h.ni
 rC:=h.rC
 fm:=by obtain⟨D,hD,hF⟩:=h.fm;exact⟨D,jQ hD k (hs _ (by simp[RG.use])),hF⟩
 nm:=by obtain⟨D,hD,hF⟩:=h.nm;exact⟨D,jQ hD k (hs _ (by simp[RG.use])),hF⟩
 len:=h.len
 nM:=h.nM
 next:=h.next
 aT:=h.aT
 names:=h.names
 apart:=h.apart
theorem aV.nil{g:RG}{st:RS}(h:aV w g fo st)(k:aa ai w w'):aV w' g fo st:=h.kept k (fun _ _ hx=>hx)
theorem aV.SJ{g:RG}{st:RS}(h:aV w g fo st)(m:Nat)(hm:m<=g.rs.length)(hg:st.aT<=m):aV (w.setCell (GB g.b 2) (.int .i64 m)) g fo {st with next:=m} where
 aq:=h.aq.setCell 2 _
 isSome:=h.isSome
 gS i hi:=by
  rw[Cc (w:=w) (Cx w _ _ g.br (fun e=>h.apart.1 e.symm))];exact h.gS i hi
 places i hi:=by
  rw[Cc (w:=w) (Cx w _ _ g.bp (fun e=>h.apart.2.1 e.symm))];exact h.places i hi
 ow:=by have:=h.ow;simpa[World.setCell]using this
 ou:=by have:=h.ou;simpa[World.setCell]using this
 ni:=h.ni
 rC:=h.rC
 fm:=by obtain⟨D,hD,hF⟩:=h.fm;exact⟨D,hD.setCell (a:=(GB g.b 2)) (fun e=>h.apart.2.2.1 e.symm) _,hF⟩
 nm:=by obtain⟨D,hD,hF⟩:=h.nm;exact⟨D,hD.setCell (a:=(GB g.b 2)) (fun e=>h.apart.2.2.2.1 e.symm) _,hF⟩
 len:=h.len
 nM:=h.nM
 next:=hm
 aT:=hg
 names:=h.names
 apart:=h.apart
theorem aV.Yx{g:RG}{st:RS}(h:aV w g fo st)(f2:Bool):aV (w.setCell (GB g.b 4) (.bool f2)) g f2 st where
 aq:=h.aq.setCell 4 _
 isSome:=h.isSome
 gS i hi:=by
  rw[Cc (w:=w) (Cx w _ _ g.br (fun e=>h.apart.1 e.symm))];exact h.gS i hi
 places i hi:=by
  rw[Cc (w:=w) (Cx w _ _ g.bp (fun e=>h.apart.2.1 e.symm))];exact h.places i hi
 ow:=by have:=h.ow;simpa[World.setCell]using this
 ou:=by have:=h.ou;simpa[World.setCell]using this
 ni:=h.ni
 rC:=h.rC
 fm:=by obtain⟨D,hD,hF⟩:=h.fm;exact⟨D,hD.setCell (a:=(GB g.b 4)) (fun e=>h.apart.2.2.1 e.symm) _,hF⟩
 nm:=by obtain⟨D,hD,hF⟩:=h.nm;exact⟨D,hD.setCell (a:=(GB g.b 4)) (fun e=>h.apart.2.2.2.1 e.symm) _,hF⟩
 len:=h.len
 nM:=h.nM
 next:=h.next
 aT:=h.aT
 names:=h.names
 apart:=h.apart
theorem zJ(g:RG)(i:Nat)(v:Value):aa g.ay w (w.setCell (GB g.b i) v):=(aa.refl _ _).setCell (Or.inl (by simp[RG.ay])) v
theorem aeJ{g:RG}{st:RS}(h:aV w g fo st):
 Calls prog 84 #[BT g.b 0] w fun e w'=>e=.returned (.int .i64 (g.ps.getD st.next 0))/\aa ai w w':=by
 have c1:w.cell? (GB g.b 1)=some (.slice (some (GB g.bp 0)) (g.rs.length+1) g.cp):=h.aq.cell 1;have c2:w.cell? (GB g.b 2)=some (.int .i64 st.next):=h.aq.cell 2;have hn:=h.next
 have hl:=h.len;have cp:=h.places st.next (by omega)
 have az:st.next<g.rs.length+1:=by omega
 clear h;go_in;go_wp2;go_region;all_goals go_wp2
 all_goals go_ret
 all_goals exact⟨rfl,(aa.refl _ _).drew⟩
def aC(g:RG)(st:RS):Int:=g.rs.getD st.next (-1)
theorem OF{g:RG}{st:RS}(h:aV w g fo st):
 Calls prog 57 #[BT g.b 0] w fun e w'=>e=.returned (.int .i32 (aC g st))/\aa ai w w':=by
 have c0:w.cell? (GB g.b 0)=some (.slice g.ao g.rs.length g.cr):=h.aq.cell 0;have c2:w.cell? (GB g.b 2)=some (.int .i64 st.next):=h.aq.cell 2;have hn:=h.next
 have hl:=h.len;by_cases az:st.next<g.rs.length
 ·have mA:=h.isSome (by omega);rw[mA]at c0;have cp:=h.gS st.next az
  have aB:((st.next:Int)==(g.rs.length:Int))=false:=by simp;omega
  have hs:g.rs.getD st.next 0=aC g st:=by simp[aC,List.getD,Ae az]
  rw[hs]at cp;clear h mA hs;go_in;go_wp2;go_region;all_goals go_wp2
  all_goals go_region
  all_goals go_wp2
  all_goals go_ret
  all_goals exact⟨rfl,(aa.refl _ _).drew.drew⟩
 ·have aB:((st.next:Int)==(g.rs.length:Int))=true:=by simp;omega
  have hs:aC g st= -1:=by simp[aC,List.getD,Cg (by omega:g.rs.length<=st.next)]
  rw[hs];clear h hs;go_in;go_wp2;go_region;all_goals go_wp2
  all_goals go_ret
  all_goals exact⟨rfl,(aa.refl _ _).drew⟩
theorem aV.Ks{g:RG}{st:RS}(h:aV w g fo st)(ln:RS): -1<=aC g ln/\aC g ln<=1114111:=by
 unfold aC;by_cases hl:ln.next<g.rs.length
 ·have e:g.rs.getD ln.next (-1)=g.rs[ln.next]:=by simp[List.getD,Ae hl]
  have:=h.rC _ (A6 hl);rw[e];omega
 ·have e:g.rs.getD ln.next (-1)= -1:=by simp[List.getD,Cg (by omega:g.rs.length<=ln.next)]
  rw[e];omega
theorem j8{g:RG}{st:RS}{l:List UInt8}(h:aK l (aC g st)=true):st.next<g.rs.length:=by
 apply C8
 intro hn;have:aC g st= -1:=by simp[aC,List.getD,Cg (by omega:g.rs.length<=st.next)]
 rw[this]at h;unfold aK at h;obtain⟨b,_,hb⟩:=Cu.1 h;have:=Gj.1 hb;omega
theorem OH{g:RG}{st:RS}(h:aV w g fo st)(s:ByteArray)(hs:∀b∈s.data.toList,b.toNat<128):
 Calls prog 107 #[BT g.b 0,.string s] w fun e w'=>e=.returned (.bool (aK s.data.toList (aC g st)))/\aa ai w w':=by
 go_in
 go_wp2_with (first|(go_at_call 57;refine(OF h).mono ?_;rintro e w1 ⟨rfl,aU⟩)|(go_at_call 129;refine(ahT _ _ _ hs).mono ?_;rintro e w2 ⟨rfl,aS⟩))
 go_ret
 exact⟨rfl,aa.trans (by assumption) (by assumption)⟩
def fG(g:RG)(l:List UInt8)(st:RS):RS:=if aK l (aC g st)then{st with next:=st.next+1}else st
theorem YQ{g:RG}{st:RS}(h:aV w g fo st)(s:ByteArray)(hs:∀b∈s.data.toList,b.toNat<128)(hy:aK s.data.toList (aC g st)=true):
 Calls prog 83 #[BT g.b 0,.string s] w fun e w'=>e=.returned (.bool true)/\aV w' g fo {st with next:=st.next+1}/\aa g.ay w w':=by
 have az:=j8 hy;have hl:=h.len;go_in;go_wp2_with fail;refine(OH h s hs).mono ?_;rintro e w1 ⟨rfl,aU⟩;have h1:=h.nil aU;have c2:w1.cell? (GB g.b 2)=some (.int .i64 st.next):=h1.aq.cell 2;have f2:=h1.aq.frozen 2;rw[hy];go_wp2_with fail;go_ret;refine⟨rfl,?_,(aU.mono (fun _ hx=>hx.elim)).trans (zJ g 2 _)⟩;have:=h1.SJ (st.next+1) (by omega) (by have:=h.aT;omega);simpa using this
theorem YP{g:RG}{st:RS}(h:aV w g fo st)(s:ByteArray)(hs:∀b∈s.data.toList,b.toNat<128)(hy:aK s.data.toList (aC g st)=false):
 Calls prog 83 #[BT g.b 0,.string s] w fun e w'=>e=.returned (.bool false)/\aV w' g fo st/\aa g.ay w w':=by
 go_in
 go_wp2_with fail
 refine(OH h s hs).mono ?_;rintro e w1 ⟨rfl,aU⟩;rw[hy];go_wp2_with fail;go_ret;exact⟨rfl,h.nil aU,aU.mono (fun _ hx=>hx.elim)⟩
theorem apl{g:RG}{st:RS}(h:aV w g fo st)(s:ByteArray)(hs:∀b∈s.data.toList,b.toNat<128):
 Calls prog 83 #[BT g.b 0,.string s] w fun e w'=>e=.returned (.bool (aK s.data.toList (aC g st)))/\aV w' g fo (fG g s.data.toList st)/\aa g.ay w w':=by
 unfold fG
 cases hy:aK s.data.toList (aC g st)
 ·exact YP h s hs hy
 ·exact YQ h s hs hy
theorem yp(w:World):(zeroValue 3).run prog w=.ok (.int .i64 0) w:=by kernel_rfl
theorem xY:Keyed prog 25:=int_keyed underlying25
theorem ss:Keyed prog 9:=string_keyed underlying9
def RS.eN(st:RS)(e p:Int):RS:={st with bA:=st.bA.eN e p}
theorem aV.XQ{g:RG}{st:RS}(h:aV w g fo st)(F:cV)(hD:w'.ownsMap prog 25 (plainElem (H:=Unit) prog 3) g.bf (Maps.size D) D)(hF:wY D F)
 (k:aa (fun i=>i=g.bf) w w'):aV w' g fo {st with bA:=F} where
 aq:=h.aq.kept k (fun e=>h.apart.2.2.1 e)
 isSome:=h.isSome
 gS i hi:=(k.cell (p:=(GB g.br i)) h.ow (fun e=>h.apart.2.2.2.2.1 e.symm)).trans (h.gS i hi)
 places i hi:=(k.cell (p:=(GB g.bp i)) h.ou (fun e=>h.apart.2.2.2.2.2.1 e.symm)).trans (h.places i hi)
 ow:=Ar h.ow k.size
 ou:=Ar h.ou k.size
 ni:=h.ni
 rC:=h.rC
 fm:=⟨D,hD,hF⟩
 nm:=by obtain⟨D,hD,hF⟩:=h.nm;exact⟨D,jQ hD k (fun e=>h.apart.2.2.2.2.2.2.1 e.symm),hF⟩
 len:=h.len
 nM:=h.nM
 next:=h.next
 aT:=h.aT
 names:=h.names
 apart:=h.apart
theorem Iu{g:RG}{st:RS}(h:aV w g fo st)(e p:Int)(he:2<=e/\e<=7)(hp:0<=p/\p<=300):
 Calls prog 40 #[BT g.b 0,.int .i64 e,.int .i64 p] w fun en w'=>en=.returned (.tuple #[])/\aV w' g fo (st.eN e p)/\aa g.ay w w':=by
 have c3:w.cell? (GB g.b 3)=some (.map (some g.bf)):=h.aq.cell 3;obtain⟨D,hD,hF⟩:=h.fm;have jr:keyOf prog 25 (.int .i64 e)=some (.int .i64 e):=keyOf_int_mk underlying25 (Dd (by omega));have aW:Maps.size D<maxLen:=by rw[hF.size];have:=st.bA.aa0;unfold maxLen;omega
 go_in
 go_wp2_with (first|(at_lookup;refine By _ rfl _ _ 97 rfl 25 3 .i64 xY underlying97 underlying3 (yp _) g.bf _ D rfl hD _ _ rfl jr ?_;intro c jC zv)|(at_mapUpdate;refine Es _ rfl _ _ _ 97 rfl 25 3 xY underlying97 _ g.bf _ _ rfl hD aW _ _ _ rfl rfl jr _ [] (plainElem_int underlying3 (Dd (by omega))) ?_;intro w1 akb ajB))
 ·have mF:has D (.int .i64 e)=false:=by have:(!has D (.int .i64 e))=true:=by assumption
                                        simpa using this
  rw[hF.has]at mF;have hF':=hF.put (hD.tidy xY) e p he mF;go_end0;refine⟨rfl,?_,?_⟩
  ·have hn:st.eN e p={st with bA:=st.bA.put e p}:=(by simp[RS.eN,cV.eN,mF]);rw[hn];refine h.XQ (D:=D.put (.int .i64 e) (.lit (.int .i64 p))) _ ?_ hF' ((aa.refl _ _).eP (by assumption) (fun k hk=>Or.inl (by cases hk;rfl)));have e1:Maps.size (D.put (.int .i64 e) (.lit (.int .i64 p)))=Maps.size D+1:=(by rw[hF'.size,hF.size,cV.UR _ _ _ he mF]);rw[e1];assumption
  ·exact(aa.refl _ _).eP (by assumption) (fun k hk=>Or.inl (by cases hk;simp[RG.ay]))
 ·have NK:has D (.int .i64 e)=true:=by have:(!has D (.int .i64 e))=false:=by assumption
                                       simpa using this
  rw[hF.has]at NK;go_end0;refine⟨rfl,?_,aa.refl _ _⟩;have hn:st.eN e p=st:=by simp[RS.eN,cV.eN,NK]
  rw[hn];exact h
theorem aV.named{g:RG}{st:RS}(h:aV w g fo st)(l:List (List UInt8×Nat))(hD:w'.ownsMap prog 9 (plainElem (H:=Unit) prog 3) g.bn (Maps.size D) D)(hF:I8 D l)
 (k:aa (fun i=>i=g.bn) w w')(hn:l.length<=st.aT):aV w' g fo {st with names:=l} where
 aq:=h.aq.kept k (fun e=>h.apart.2.2.2.1 e)
 isSome:=h.isSome
 gS i hi:=(k.cell (p:=(GB g.br i)) h.ow (fun e=>h.apart.2.2.2.2.2.2.2.1 e.symm)).trans (h.gS i hi)
 places i hi:=(k.cell (p:=(GB g.bp i)) h.ou (fun e=>h.apart.2.2.2.2.2.2.2.2 e.symm)).trans (h.places i hi)
 ow:=Ar h.ow k.size
 ou:=Ar h.ou k.size
 ni:=h.ni
 rC:=h.rC
 fm:=by obtain⟨D,hD,hF⟩:=h.fm;exact⟨D,jQ hD k (fun e=>h.apart.2.2.2.2.2.2.1 e),hF⟩
 nm:=⟨D,hD,hF⟩
 len:=h.len
 nM:=h.nM
 next:=h.next
 aT:=h.aT
 names:=hn
 apart:=h.apart
def rB(g:RG)(st:RS):Int:=g.ps.getD st.next 0
def ID(g:RG)(st:RS):RS:={st.eN 3 (rB g st)with next:=g.rs.length}
theorem Oy{g:RG}{st:RS}(h:aV w g fo st):
 Calls prog 58 #[BT g.b 0] w fun en w'=>en=.returned (.tuple #[])/\aV w' g fo (ID g st)/\aa g.ay w w':=by
 have hp:=h.ni st.next
 go_in
 go_wp2_with fail
 refine(aeJ h).mono ?_;rintro e w1 ⟨rfl,aU⟩;have h1:=h.nil aU;go_wp2_with fail;refine(Iu h1 3 _ (by omega) hp).mono ?_;rintro e w2 ⟨rfl,h2,aS⟩;have c0:w2.cell? (GB g.b 0)=some (.slice g.ao g.rs.length g.cr):=h2.aq.cell 0;have c2:w2.cell? (GB g.b 2)=some (.int .i64 st.next):=h2.aq.cell 2;have f2:=h2.aq.frozen 2;go_wp2_with fail;go_end0;exact⟨rfl,h2.SJ g.rs.length (Ab _) (by have:=h2.aT;have:=h2.next;omega),((aU.mono (fun _ hx=>hx.elim)).trans aS).trans (zJ g 2 _)⟩
def eY(g:RG)(l:List UInt8)(st:RS):RS:=if aK l (aC g st)then{st with next:=st.next+1}else ID g st
def qp(g:RG)(l:List UInt8)(st:RS):RS:=if aC g st= -1\/aK l (aC g st)=true then ID g st else{st with next:=st.next+1}
theorem alY{g:RG}{st:RS}(h:aV w g fo st)(s:ByteArray)(hs:∀b∈s.data.toList,b.toNat<128):
 Calls prog 163 #[BT g.b 0,.string s] w fun e w'=>e=.returned (.tuple #[])/\aV w' g fo (eY g s.data.toList st)/\aa g.ay w w':=by
 unfold eY
 cases hy:aK s.data.toList (aC g st)
 ·go_in
  go_wp2_with fail
  refine(YP h s hs hy).mono ?_;rintro e w1 ⟨rfl,h1,aU⟩;go_wp2_with fail;refine(Oy h1).mono ?_;rintro e w2 ⟨rfl,h2,aS⟩;go_wp2_with fail;go_end0;exact⟨rfl,by simpa using h2,aU.trans aS⟩
 ·go_in
  go_wp2_with fail
  refine(YQ h s hs hy).mono ?_;rintro e w1 ⟨rfl,h1,aU⟩;go_wp2_with fail;go_end0;exact⟨rfl,by simpa using h1,aU⟩
theorem alW{g:RG}{st:RS}(h:aV w g fo st)(s:ByteArray)(hs:∀b∈s.data.toList,b.toNat<128):
 Calls prog 136 #[BT g.b 0,.string s] w fun e w'=>e=.returned (.int .i32 (aC g st))/\aV w' g fo (qp g s.data.toList st)/\aa g.ay w w':=by
 unfold qp;have hl:=h.len;by_cases gx:aC g st= -1
 ·rw[if_pos (Or.inl gx)];have hb:(aC g st== -1)=true:=by simp[gx]
  go_in
  go_wp2_with fail
  refine(OF h).mono ?_;rintro e w1 ⟨rfl,aU⟩;go_wp2_with fail;refine(Oy (h.nil aU)).mono ?_;rintro e w2 ⟨rfl,h2,aS⟩;go_wp2_with fail;go_ret;exact⟨by rw[gx];rfl,h2,(aU.mono (fun _ hx=>hx.elim)).trans aS⟩
 ·have hb:(aC g st== -1)=false:=by simp[gx]
  have az:st.next<g.rs.length:=by
   apply C8
   intro hn;exact gx (by simp[aC,List.getD,Cg (by omega:g.rs.length<=st.next)])
  cases hy:aK s.data.toList (aC g st)
  ·rw[if_neg (by simp[gx])];go_in;go_wp2_with fail;refine(OF h).mono ?_;rintro e w1 ⟨rfl,aU⟩;have h1:=h.nil aU;go_wp2_with fail;refine(OH h1 s hs).mono ?_;rintro e w2 ⟨rfl,aS⟩;have h2:=h1.nil aS;have c2:w2.cell? (GB g.b 2)=some (.int .i64 st.next):=h2.aq.cell 2;have f2:=h2.aq.frozen 2;rw[hy];go_wp2_with fail;go_ret;refine⟨rfl,?_,((aU.trans aS).mono (fun _ hx=>hx.elim)).trans (zJ g 2 _)⟩;have:=h2.SJ (st.next+1) (by omega) (by have:=h.aT;omega);simpa using this
  ·rw[if_pos (Or.inr rfl)];go_in;go_wp2_with fail;refine(OF h).mono ?_;rintro e w1 ⟨rfl,aU⟩;have h1:=h.nil aU;go_wp2_with fail;refine(OH h1 s hs).mono ?_;rintro e w2 ⟨rfl,aS⟩;have h2:=h1.nil aS;rw[hy];go_wp2_with fail;refine(Oy h2).mono ?_;rintro e w3 ⟨rfl,h3,bm⟩;go_wp2_with fail;go_ret;exact⟨rfl,h3,((aU.trans aS).mono (fun _ hx=>hx.elim)).trans bm⟩
def wF:List UInt8:=[48,49,50,51,52,53,54,55,56,57]
def N6:List UInt8:=[44]
def wE:List UInt8:=[125]
def N7:List UInt8:=[123]
def ade:List UInt8:=[92,91,93,94,45]
def Ip:List UInt8:=[46,94,36,124,63,42,43,40,41,91,93,123,125,45,47,92,110,116,114]
def rq:List UInt8:=[46,94,36,124,63,42,43,40,41,91,93,123,125,45,47,92,110,116,114,100,68,119,87,115,83,98,66]
def gA:List UInt8:=[92]
def mJ:List UInt8:=[100,119,115]
def xW:List UInt8:=[45]
def tF:List UInt8:=[94]
def qn:List UInt8:=[93]
def N9:List UInt8:=[91]
def oP:List UInt8:=[97,98,99,100,101,102,103,104,105,106,107,108,109,110,111,112,113,114,115,116,117,118,119,120,121,122]
def Kd:List UInt8:=[62]
def DL:List UInt8:=[60]
def iE:List UInt8:=[63]
def Oa:List UInt8:=[42]
def N_:List UInt8:=[43]
def wD:List UInt8:=[124]
def Kf:List UInt8:=[41]
def Ke:List UInt8:=[40]
def uM:List UInt8:=[124,41]
def lI:List UInt8:=[105]
def Io:List UInt8:=[58]
def RY:List UInt8:=[46,94,36]
def RX:List UInt8:=[92,46,94,36,124,63,42,43,40,41,91,123]
def jx(g:RG)(st:RS):RS×Int:=if aK wF (aC g st)then({st with next:=st.next+1},aC g st-48)else(ID g st,0)
def fL(g:RG)(st:RS):RS×Int:=
 if 0<(jx g st).2/\aK wF (aC g (jx g st).1)=true then((jx g (jx g st).1).1,10*(jx g st).2+(jx g (jx g st).1).2)else jx g st
def sE(g:RG)(st:RS):RS×Int:=if aK wE (aC g st)then(st,-1)else fL g st
def eO(g:RG)(st:RS):RS×Int×Int:=
 if aK N6 (aC g (fL g st).1)then
  (eY g wE (sE g {(fL g st).1 with next:=(fL g st).1.next+1}).1,(fL g st).2,(sE g {(fL g st).1 with next:=(fL g st).1.next+1}).2)
 else(eY g wE (fL g st).1,(fL g st).2,(fL g st).2)
def qN(c:Int):Int:=if c=110 then 10 else if c=116 then 9 else if c=114 then 13 else c
def l9(g:RG)(qM:Bool)(st:RS):RS×Int:=if qM then(eY g Ip st,qN (aC g st))else(qp g ade st,aC g st)
def dq(g:RG)(st:RS):RS×Int:=l9 g (aK gA (aC g st)) (fG g gA st)
def rA(g:RG)(place:Int)(x:RS×Int):RS:=
 if aK xW (aC g x.1)then
  if(dq g {x.1 with next:=x.1.next+1}).2<x.2 then(dq g {x.1 with next:=x.1.next+1}).1.eN 5 place else(dq g {x.1 with next:=x.1.next+1}).1
 else x.1
def gi(g:RG)(st:RS):RS:=
 if aK gA (aC g st)=true/\aK mJ (aC g {st with next:=st.next+1})=true then{st with next:=st.next+2}
 else rA g (rB g st) (dq g st)
def mM(g:RG):Nat->RS->RS
 |0,st=>st
 |m+1,st=>if aC g st= -1\/aK qn (aC g st)=true then st else mM g m (gi g st)
def sD(g:RG)(st:RS):RS:=eY g qn (mM g (g.rs.length+1) (gi g (fG g tF st)))
def lL(g:RG)(first:Nat):Nat->RS->RS
 |0,st=>st
 |m+1,st=>if st.next<first+8/\aK oP (aC g st)=true then lL g first m {st with next:=st.next+1}else st
def Kr(l:List Int):List UInt8:=(runesBytes l).data.toList
def ng(g:RG)(first:Nat)(st:RS):RS:=
 if st.names.any (fun p=>p.1==Kr ((g.rs.take st.next).drop first))then st.eN 6 (g.ps.getD first 0)
 else{st with names:=(Kr ((g.rs.take st.next).drop first),st.aT)::st.names}
def pL(g:RG)(st:RS):RS:=eY g Kd (ng g st.next (lL g st.next (g.rs.length+9) (eY g oP st)))
inductive PT where
 |node (kind:Int) (parts:List PT) (low high:Int):PT
mutual
def PT.size:PT->Int
 |.node k ps lo hi=>
  let s:=PT.lN ps
  min (if k=0\/k=1 then s+1 else if k=3 then s+(ps.length-1:Int)else if k=4 then(if hi= -1 then lo+1 else hi)*(s+1)else s) 1001
def PT.lN:List PT->Int
 | []=>0
 |p::ps=>PT.size p+PT.lN ps
end
def iw(g:RG)(a:PT)(st:RS):RS×PT:=
 if aK Oa (aC g st)then(fG g iE {st with next:=st.next+1},.node 4 [a] 0 (-1))
 else if aK N_ (aC g st)then(fG g iE {st with next:=st.next+1},.node 4 [a] 1 (-1))
 else if aK iE (aC g st)then(fG g iE {st with next:=st.next+1},.node 4 [a] 0 1)
 else if aK N7 (aC g st)then
  let x:=eO g {st with next:=st.next+1}
  (fG g iE (if x.2.1>20\/x.2.2>20\/(x.2.2≠ -1/\x.2.2<x.2.1)then x.1.eN 4 (rB g st)else x.1),.node 4 [a] x.2.1 x.2.2)
 else(st,a)
def iH(g:RG)(st:RS):RS:=
 if aK iE (aC g st)=false then{st with aT:=st.aT+1}
 else if aK DL (aC g {st with next:=st.next+1})then pL g {st with next:=st.next+2,aT:=st.aT+1}
 else eY g Io (fG g lI {st with next:=st.next+1})
def wM(g:RG)(aI:RS->RS×PT)(st:RS):RS×PT:=(eY g Kf (aI (iH g st)).1,.node 1 [(aI (iH g st)).2] 0 0)
def np:PT:=.node 0 [] 0 0
def dE(g:RG)(aI:RS->RS×PT)(st:RS):RS×PT:=
 if aK Ke (aC g st)then wM g aI {st with next:=st.next+1}
 else if aK N9 (aC g st)then(sD g {st with next:=st.next+1},np)
 else if aK gA (aC g st)then(eY g rq {st with next:=st.next+1},np)
 else if aK RY (aC g st)then({st with next:=st.next+1},np)
 else(qp g RX st,np)
def jy(g:RG)(aI:RS->RS×PT):Nat->RS->List PT->RS×List PT
 |0,st,aF=>(st,aF)
 |m+1,st,aF=>
  if aC g st= -1\/aK uM (aC g st)=true then(st,aF)
  else jy g aI m (iw g (dE g aI st).2 (dE g aI st).1).1 (aF++[(iw g (dE g aI st).2 (dE g aI st).1).2])
def eR(g:RG)(aI:RS->RS×PT)(st:RS):RS×PT:=((jy g aI (g.rs.length+1) st []).1,.node 2 (jy g aI (g.rs.length+1) st []).2 0 0)
def iG(g:RG)(aI:RS->RS×PT):Nat->RS->List PT->RS×List PT
 |0,st,aF=>(st,aF)
 |m+1,st,aF=>
  if aK wD (aC g st)then iG g aI m (eR g aI {st with next:=st.next+1}).1 (aF++[(eR g aI {st with next:=st.next+1}).2])else(st,aF)
def aY(g:RG):Nat->RS->RS×PT
 |0,st=>(st,np)
 |k+1,st=>((iG g (aY g k) (g.rs.length+1) (eR g (aY g k) st).1 [(eR g (aY g k) st).2]).1,.node 3 (iG g (aY g k) (g.rs.length+1) (eR g (aY g k) st).1 [(eR g (aY g k) st).2]).2 0 0)
def eJ(g:RG)(st:RS):RS×PT:=
 if aC g (aY g (g.rs.length+1) st).1= -1 then aY g (g.rs.length+1) st else(ID g (aY g (g.rs.length+1) st).1,(aY g (g.rs.length+1) st).2)
theorem aoy{g:RG}{st:RS}(h:g.rs.length<=st.next):aC g st= -1:=by simp[aC,List.getD,Cg h]
theorem XE{g:RG}{st:RS}(h:aC g st≠ -1):st.next<g.rs.length:=by
 apply C8
 intro hn;exact h (aoy (by omega))
theorem Xg{r:Int}(h:aK wF r=true):48<=r/\r<=57:=by
 simp[aK,wF]at h
 omega
