/- Words on memory -/
import Derived.Test.YtmbpfhlnifdhgaaGreatDoorP00
import Derived.Test.YtmbpfhlnifdhgaaGreatDoorRows
set_option linter.unusedVariables false
set_option linter.unusedSimpArgs false
set_option maxRecDepth 100000
set_option maxHeartbeats 16000000
namespace Go.Proofs.YtmbpfhlnifdhgaaGreatDoor
open Go.Proofs.Tryz
open Go.RowKit
variable {p:Addr} {cs:Array Value} {fo z:Bool} {D:DataW Unit} {n o:Int} {l:List UInt8} {b:Nat} {S S':Nat->Prop} {t:TypeId} {a c w w':World}
structure I(S:Nat->Prop)(w w':World):Prop where
 os:w'.os=w.os
 tape:w'.tape=w.tape
 output:w'.output=w.output
 size:w.heap.size<=w'.heap.size
 block:∀k,k<w.heap.size->¬S k->w'.heap[k]? =w.heap[k]?
def aq:Nat->Prop:=fun _=>False
theorem I.refl(S:Nat->Prop)(w:World):I S w w:=⟨rfl,rfl,rfl,Aa _,fun _ _ _=>rfl⟩
theorem I.trans{b:World}(h:I S a b)(k:I S b c):I S a c:=
 ⟨k.os.trans h.os,k.tape.trans h.tape,k.output.trans h.output,Bf h.size k.size,fun i hi hs=>(k.block i (A3 hi h.size) hs).trans (h.block i hi hs)⟩
theorem I.bY{b:World}(h:I S a b)(k:I S' b c)(hs:∀i,i<a.heap.size->S' i->S i):I S a c:=
 ⟨k.os.trans h.os,k.tape.trans h.tape,k.output.trans h.output,Bf h.size k.size,fun i hi hn=>(k.block i (A3 hi h.size) (fun h'=>hn (hs i hi h'))).trans (h.block i hi hn)⟩
theorem I.mono(h:I S w w')(hs:∀i,S i->S' i):I S' w w':=
 ⟨h.os,h.tape,h.output,h.size,fun k hk hn=>h.block k hk (fun h'=>hn (hs k h'))⟩
theorem I.drew(h:I S a w):I S a w.drew:=⟨h.os,h.tape,h.output,h.size,h.block⟩
theorem I.drewN(h:I S a w)(n:Nat):I S a (w.drewN n):=⟨h.os,h.tape,h.output,h.size,h.block⟩
theorem I.alloc(h:I S a w)(o:Obj):I S a (w.alloc o):=
 ⟨h.os,h.tape,h.output,by have:=h.size;simp;omega,fun k hk hs=>(Below.heap_alloc w o k (A3 hk h.size)).trans (h.block k hk hs)⟩
theorem I.setCell(h:I S a w)(hp:S p.block\/a.heap.size<=p.block)(u:Value):I S a (w.setCell p u):=
 ⟨h.os,h.tape,h.output,by have:=h.size;simp[World.setCell];omega,fun k hk hs=>(Ca w p u k (by
   intro e;subst e;rcases hp with hp|hp
   ·exact hs hp
   ·omega)).trans (h.block k hk hs)⟩
theorem I.dn{row:Option Nat}(h:I S a w)(hg:w.grownBy w' row)(hr:∀k,row=some k->S k\/a.heap.size<=k):I S a w':=
 ⟨hg.os.trans h.os,hg.tape.trans h.tape,hg.output.trans h.output,Bf h.size hg.size,fun k hk hs=>(hg.block k (A3 hk h.size) (fun e=>by
   rcases hr k e.symm with hp|hp
   ·exact hs hp
   ·omega)).trans (h.block k hk hs)⟩
theorem I.below(h:I S w w'){B:Nat}(hB:B<=w.heap.size)(hs:∀k,k<B->¬S k):Below B w w':=
 ⟨h.os,h.tape,h.output,h.size,fun k hk=>h.block k (A3 hk hB) (hs k hk)⟩
theorem I.cell(h:I S w w')(hp:p.block<w.heap.size)(hs:¬S p.block):w'.cell? p=w.cell? p:=Bm (w:=w) (h.block p.block hp hs)
theorem I.frozen(h:I S w w')(hp:p.block<w.heap.size)(hs:¬S p.block):w'.frozen? p=w.frozen? p:=World.frozen?_of_block (w:=w) (h.block p.block hp hs)
def ay(w:World)(b:Nat)(cs:Array Value)(t:TypeId):Prop:=w.heap[b]? =some (.cells cs t (0,0))
theorem ay.lt(h:ay w b cs t):b<w.heap.size:=by
 unfold ay at h;exact(Ah.1 h).1
theorem ay.cell(h:ay w b cs t)(i:Nat):w.cell? ⟨b,i,none⟩=cs[i]? :=by
 unfold ay at h;simp[World.cell?,h]
theorem ay.frozen(h:ay w b cs t)(i:Nat):w.frozen? ⟨b,i,none⟩=false:=by
 unfold ay at h;simp[World.frozen?,h]
theorem ay.kept(h:ay w b cs t)(k:I S w w')(hs:¬S b):ay w' b cs t:=(k.block b h.lt hs).trans h
theorem ay.setCell(h:ay w b cs t)(i:Nat)(v:Value):ay (w.setCell ⟨b,i,none⟩ v) b (cs.setIfInBounds i v) t:=by
 unfold ay at*;have hb:=(Ah.1 h).1;simp only[World.setCell,Ei];simp[h]
theorem ay.dD(h:ay w b cs t)(hp:b≠p.block)(v:Value):ay (w.setCell p v) b cs t:=(Ca w p v b hp).trans h
theorem ay.alloc(h:ay w b cs t)(o:Obj):ay (w.alloc o) b cs t:=(Below.heap_alloc w o b h.lt).trans h
theorem ay.new(w:World)(cs:Array Value)(t:TypeId):ay (w.alloc (.cells cs t (0,0))) w.heap.size cs t:=by
 show(w.heap.push _)[w.heap.size]? =_
 simp
theorem ay.drew(h:ay w b cs t):ay w.drew b cs t:=h
def ak(l:List UInt8)(r:Int):Bool:=l.any fun b=>(b.toNat:Int)==r
theorem aj8(s:ByteArray)(c:Int)(w:World):
 Calls prog 152 #[.string s,.int .u8 c] w fun e w'=>e=.returned (.int .i64 (Lib.indexByte s.data.toList c.toNat.toUInt8))/\w'=w:=by
 go_in
 go_wp2
 rw[run_callFunc_extern func158 (by kernel_rfl) (by kernel_rfl) (by kernel_rfl) (e:=Extern.BytealgIndexByte.indexByte) (by kernel_rfl),Lib.run_indexByteString];simp only[Result.andThen];rw[Oper.upon_value];go_wp2;go_ret;exact⟨rfl,rfl⟩
theorem acL(s:ByteArray)(c:Int)(w:World):
 Calls prog 140 #[.string s,.int .u8 c] w fun e w'=>e=.returned (.int .i64 (Lib.indexByte s.data.toList c.toNat.toUInt8))/\w'=w:=by
 go_in
 go_wp2_with (go_at_call 152;refine(aj8 _ _ _).mono ?_;rintro e w' ⟨rfl,rfl⟩)
 go_ret
 exact⟨rfl,rfl⟩
def AT(r:Int):Bool:=decide ((0<=r/\r<55296)\/(57343<r/\r<=1114111))
theorem Yg(r:Int)(w:World):Calls prog 141 #[.int .i32 r] w fun e w'=>e=.returned (.bool (AT r))/\w'=w:=by
 go_in
 go_wp2
 all_goals go_ret
 all_goals refine⟨?_,rfl⟩
 all_goals(congr 2;simp[AT];omega)
theorem ajZ(l:List UInt8)(r:Int)(h0:0<=r)(h1:r<128):(decide (0<=Lib.indexByte l r.toNat.toUInt8))=ak l r:=by
 induction l with
 |nil=>simp[Lib.indexByte,ak]
 |cons b l ih=>
  have iR:=Lib.indexByte_ge l r.toNat.toUInt8
  have hc:(b==r.toNat.toUInt8)=((b.toNat:Int)==r):=by
   have hb:=b.toNat_lt;rw[Av];simp only[Ai];constructor
   ·intro e;rw[e];simp;omega
   ·intro e;apply UInt8.toNat.inj;simp;omega
  have hi:ak (b::l) r=(((b.toNat:Int)==r)||ak l r):=by simp[ak]
  rw[hi,<-ih,<-hc];have hu:Lib.indexByte (b::l) r.toNat.toUInt8=if b==r.toNat.toUInt8 then 0 else if Lib.indexByte l r.toNat.toUInt8== -1 then-1 else Lib.indexByte l r.toNat.toUInt8+1:=rfl
  rw[hu];generalize Lib.indexByte l r.toNat.toUInt8=x at*
  cases hb:(b==r.toNat.toUInt8)
  ·by_cases hx:x= -1
   ·simp[hx]
   ·simp[hx];omega
  ·simp
theorem aj9(s:ByteArray)(r:Int)(w:World)(h0:0<=r)(h1:r<128):
 Calls prog 127 #[.string s,.int .i32 r] w fun e w'=>e=.returned (.int .i64 (Lib.indexByte s.data.toList r.toNat.toUInt8))/\w'=w:=by
 go_in
 go_wp2_with (go_at_call 140;refine(acL _ _ _).mono ?_;rintro e w' ⟨rfl,rfl⟩)
 go_ret
 exact⟨rfl,rfl⟩
theorem aj_(s:ByteArray)(r:Int)(w:World)(hv:AT r=false):
 Calls prog 127 #[.string s,.int .i32 r] w fun e w'=>e=.returned (.int .i64 (-1))/\w'=w:=by
 have hr:r<0\/55296<=r:=by simp[AT]at hv;omega
 have aF:(r==65533)=false:=by simp[AT]at hv;simp;omega
 rcases hr with hr|hr
 ·go_in
  go_wp2_with (go_at_call 141;refine(Yg _ _).mono ?_;rintro e w' ⟨rfl,rfl⟩)
  go_ret
  exact⟨rfl,rfl⟩
 ·go_in
  go_wp2_with (go_at_call 141;refine(Yg _ _).mono ?_;rintro e w' ⟨rfl,rfl⟩)
  go_ret
  exact⟨rfl,rfl⟩
theorem aka(s:ByteArray)(w:World)(hs:∀b∈s.data.toList,b.toNat<128):
 Calls prog 127 #[.string s,.int .i32 65533] w fun e w'=>e=.returned (.int .i64 (-1))/\I aq w w':=by
 go_in
 go_wp2_with fail
 go_loopw [5] (fun _ wr=>∃k:Nat,k<=s.size/\wr=w.iter s k) (fun _ wr=>s.size-wr.iterPos w.heap.size)
 case atStart=>exact⟨0,Aw _,rfl⟩
 case round=>
  obtain⟨k,hk,rfl⟩:=hrel;by_cases ar:k<s.size
  ·have hb:=hs s[k] (by exact Array.getElem_mem_toList (xs:=s.data) ar);have hn:=(fun ty=>run_next_ascii (P:=prog) w s k ty ar hb);have aF:(((s[k]).toNat:Int)==65533)=false:=by simp;omega
   go_wp2_with fail
   go_roundw
   case rel=>exact⟨k+1,by omega,rfl⟩
   case measure=>simp;omega
  ·have hn:=(fun ty=>run_next_end (P:=prog) w s k ty ar);go_wp2_with fail;go_ret;exact⟨rfl,(I.refl _ _).alloc _⟩
theorem aj7(l:List UInt8)(c:UInt8)(h:∀b∈l,b.toNat<128)(hc:128<=c.toNat):Lib.indexByte l c<0:=by
 induction l with
 |nil=>simp[Lib.indexByte]
 |cons b l ih=>
  have hb:=h b (by simp)
  have aF:(b==c)=false:=by
   cases hx:(b==c)
   ·rfl
   ·have:=Ai.1 hx;rw[this]at hb;omega
  have i:=ih (fun x hx=>h x (by simp[hx]));have hu:Lib.indexByte (b::l) c=if b==c then 0 else if Lib.indexByte l c== -1 then-1 else Lib.indexByte l c+1:=rfl
  have iR:=Lib.indexByte_ge l c;have e:Lib.indexByte l c= -1:=by omega
  rw[hu,aF,e];simp
theorem akb(s:ByteArray)(r:Int)(w:World)(hs:∀b∈s.data.toList,b.toNat<128)(hv:AT r=true)(h:128<=r)(aF:(r==65533)=false):
 Calls prog 127 #[.string s,.int .i32 r] w fun e w'=>e=.returned (.int .i64 (-1))/\I aq w w':=by
 have nf:Utf8.valid r=true:=by simp[AT]at hv;simp[Utf8.valid];omega
 obtain⟨e2,e4,el⟩:=encode_facts r nf h;have Gy:=el (by omega);have ar:((Utf8.encode r).size:Int)-1<((Utf8.encode r).size:Int):=by omega
 clear nf;go_in;go_wp2_with (go_at_call 141;refine(Yg _ _).mono ?_;rintro e w' ⟨rfl,rfl⟩);go_step3;go_wp2_with fail;refine C4 1 ?_;rw[Bp];by_cases bm:((Utf8.encode r).size:Int)-1<(s.size:Int)
 ·go_wp2_with fail
  go_step3
  go_wp2_with fail
  have iM:0<=((Utf8.encode r).size:Int)-1:=by omega
  have hL:(Utf8.encode r).size-1<(Utf8.encode r).size:=by omega
  have hE2:(1:Int)<=((Utf8.encode r).size:Int):=by omega
  have hS:(Utf8.encode r).size-1<s.size:=by omega
  have hsb:=hs (s[(Utf8.encode r).size-1]) (by exact Array.getElem_mem_toList (xs:=s.data) hS);have hN:(((Utf8.encode r).size:Int)-1).toNat=(Utf8.encode r).size-1:=by omega
  go_region
  all_goals go_wp2_with fail
  have Wh:IntKind.i64.wrap ((Utf8.encode r).size:Int)=((Utf8.encode r).size:Int):=Dr _ (by omega) (by omega);have fN:(Utf8.encode r).size<=s.size:=by omega
  obtain⟨w2,pE⟩:∃w2,w2=w'.drew:=⟨_,rfl⟩
  have aG:I aq w' w2:=by rw[pE];exact(I.refl _ _).drew
  rw[<-pE];clear pE;go_quiet ((go_at_call 140;go_must (exact Dl (acL _ _ _))))
  have ai9:Lib.indexByte (List.take (s.size-(Utf8.encode r).size) (List.drop (Utf8.encode r).size s.data.toList)) (Utf8.encode r)[(Utf8.encode r).size-1]<0:=
   aj7 _ _ (fun b hb=>hs b (Ep (B9 hb))) Gy
  go_wp2_with fail
  rw[Exit.noGoto_ret];go_wp2_with fail;rw[Exit.noGoto_ret];go_wp2_with fail;go_ret;exact⟨rfl,aG.drewN _⟩
 ·go_wp2_with fail
  go_ret
  exact⟨rfl,I.refl _ _⟩
theorem ahF(s:ByteArray)(r:Int)(w:World)(hs:∀b∈s.data.toList,b.toNat<128):
 Calls prog 111 #[.string s,.int .i32 r] w fun e w'=>e=.returned (.bool (ak s.data.toList r))/\I aq w w':=by
 have key:∃i:Int,decide (0<=i)=ak s.data.toList r/\Calls prog 127 #[.string s,.int .i32 r] w fun e w'=>e=.returned (.int .i64 i)/\I aq w w':=by
  have ajE:¬(0<=r/\r<128)->ak s.data.toList r=false:=by
   intro hr;unfold ak;rw[Ee];intro b hb;have:=hs b hb;simp;omega
  by_cases h1:0<=r/\r<128
  ·exact⟨_,ajZ _ _ h1.1 h1.2,(aj9 s r w h1.1 h1.2).mono fun e w' ⟨he,hw⟩=>⟨he,hw▸I.refl _ _⟩⟩
  ·refine⟨-1,by rw[ajE h1];decide,?_⟩
   cases hv:AT r
   ·exact(aj_ s r w hv).mono fun e w' ⟨he,hw⟩=>⟨he,hw▸I.refl _ _⟩
   ·have h0:128<=r:=by simp[AT]at hv;omega
    by_cases he:r=65533
    ·subst he;exact aka s w hs
    ·exact akb s r w hs hv h0 (by simp[he])
 obtain⟨i,hi,hc⟩:=key;go_in;go_wp2_with (go_at_call 127;refine hc.mono ?_;rintro e w' ⟨rfl,hk⟩);go_ret;exact⟨rfl,by assumption⟩
theorem aiT(s p:ByteArray)(w:World):
 Calls prog 40 #[.string s,.string p] w fun e w'=>e=.returned (.bool (Lib.hasPrefix s.data.toList p.data.toList))/\I aq w w':=by
 rw[<-Lib.hasPrefix_of_take,<-Ef,<-Ef];go_in;go_wp2
 ·rename_i h
  go_ret
  refine⟨?_,I.refl _ _⟩;show Ending.returned (Value.bool ((s.extract 0 p.size).toList==p.toList))=_
  rw[Lib.extract_toList,A0];simp[h]
 ·rename_i h
  go_ret
  refine⟨?_,I.refl _ _⟩;show Ending.returned (Value.bool false)=_
  simp[h]
def iA(c:Int):Int×Int×Int:=
 if c<128 then(1,0,0)else if 194<=c/\c<224 then(2,128,191)else if c=224 then(3,160,191)else if c=237 then(3,128,159)
 else if 224<c/\c<240 then(3,128,191)else if c=240 then(4,144,191)else if 240<c/\c<244 then(4,128,191)else if c=244 then(4,128,143)else(0,0,0)
theorem alg{c a b d:Int}(h:iA c=(a,b,d)):Ending.returned (.tuple #[.int .i64 a,.int .u8 b,.int .u8 d])=Ending.returned (.tuple #[.int .i64 (iA c).1,.int .u8 (iA c).2.1,.int .u8 (iA c).2.2]):=by rw[h]
theorem xp(c:Int)(w:World):
 Calls prog 55 #[.int .u8 c] w fun e w'=>e=.returned (.tuple #[.int .i64 (iA c).1,.int .u8 (iA c).2.1,.int .u8 (iA c).2.2])/\w'=w:=by
 go_in
 go_wp2
 all_goals go_ret3
 all_goals refine⟨alg ?_,rfl⟩
 all_goals((try simp only[Ai,Dm,ne_eq]at*);unfold iA;repeat(first|rw[if_pos (by omega)]|rw[if_neg (by omega)]))
def im(c:Int):Bool:=decide (128<=c/\c<192)
theorem uM(c:Int)(w:World):
 Calls prog 56 #[.int .u8 c] w fun e w'=>e=.returned (.bool (im c))/\w'=w:=by
 go_in
 go_wp2
 all_goals go_ret
 all_goals refine⟨?_,rfl⟩
 all_goals(congr 2;simp[im];omega)
def tP(c:Int):Bool:=decide (48<=c/\c<=57)
theorem FU(c:Int)(w:World):
 Calls prog 86 #[.int .i64 c] w fun e w'=>e=.returned (.bool (tP c))/\w'=w:=by
 go_in
 go_wp2
 all_goals go_ret
 all_goals refine⟨?_,rfl⟩
 all_goals(congr 2;simp[tP];omega)
def AL(c:Int):Bool:=decide (97<=c/\c<=122)
theorem anU(c:Int)(w:World):
 Calls prog 85 #[.int .i64 c] w fun e w'=>e=.returned (.bool (AL c))/\w'=w:=by
 go_in
 go_wp2
 all_goals go_ret
 all_goals refine⟨?_,rfl⟩
 all_goals(congr 2;simp[AL];omega)
theorem mc(b:UInt8):wrap64 (b.toNat:Int)=b.toNat:=by have:=b.toNat_lt;unfold wrap64;omega
theorem aj0(l:List UInt8)(r:Int)(k:Nat)(hk:k<l.length):ak (l.take (k+1)) r=(ak (l.take k) r||((l[k].toNat:Int)==r)):=by
 unfold ak;rw[Cb hk,Cl];simp only[Ch,Cn,Br]
theorem ajY(l:List UInt8)(r:Int)(k:Nat)(hk:k<l.length)(h:((l[k].toNat:Int)==r)=true):ak l r=true:=by
 unfold ak;rw[Cx];exact⟨l[k],Ay hk,h⟩
theorem agc(s:ByteArray)(r:Int)(w:World)(hs:s.size<=1000):
 Calls prog 59 #[.string s,.int .i64 r] w fun e w'=>e=.returned (.bool (ak s.data.toList r))/\w'=w:=by
 go_in
 go_wp2
 go_loop [5] (fun i=>∃k:Nat,k<=s.size/\i=.int .i64 k/\ak (s.data.toList.take k) r=false) (fun i=>s.size-(intOf i).toNat)
 case atStart=>exact⟨0,Aw _,rfl,by simp[ak]⟩
 case round=>
  obtain⟨k,hk,rfl,dt⟩:=hrel;have HN:Hid (ak (s.data.toList.take k) r=false):=dt;clear dt;by_cases ar:k<s.size
  ·have hl:k<s.data.toList.length:=(by simpa using ar);have he:s.data.toList[k]=s[k]:=rfl
   cases hc:((s[k].toNat:Int)==r)
   ·have rO:(wrap64 (s[k].toNat:Int)==r)=false:=by rw[mc];exact hc
    go_wp2
    go_round
    case rel=>exact⟨k+1,by omega,by go_num,by rw[aj0 _ _ _ hl,HN.out,he,hc];rfl⟩
    case measure=>simp[intOf];omega
   ·have hh:=ajY s.data.toList r k hl hc;have HH:Hid (ak s.data.toList r=true):=hh;clear hh;have rO:(wrap64 (s[k].toNat:Int)==r)=true:=by rw[mc];exact hc
    go_wp2
    go_ret
    exact⟨by rw[HH.out];rfl,rfl⟩
  ·go_wp2
   go_ret
   have hx:=HN.out;rw[Cp (by simp;omega)]at hx;exact⟨by rw[hx];rfl,rfl⟩
inductive M where
 |begin|more|open_|query|colon|name|escape|low|high|times|lazy|class_|first|items|one|upto|Hu|CL
def M.str:M->ByteArray
 |.begin=>⟨#[98,101,103,105,110]⟩
 |.more=>⟨#[109,111,114,101]⟩
 |.open_=>⟨#[111,112,101,110]⟩
 |.query=>⟨#[113,117,101,114,121]⟩
 |.colon=>⟨#[99,111,108,111,110]⟩
 |.name=>⟨#[110,97,109,101]⟩
 |.escape=>⟨#[101,115,99,97,112,101]⟩
 |.low=>⟨#[108,111,119]⟩
 |.high=>⟨#[104,105,103,104]⟩
 |.times=>⟨#[116,105,109,101,115]⟩
 |.lazy=>⟨#[108,97,122,121]⟩
 |.class_=>⟨#[99,108,97,115,115]⟩
 |.first=>⟨#[102,105,114,115,116]⟩
 |.items=>⟨#[105,116,101,109,115]⟩
 |.one=>⟨#[111,110,101]⟩
 |.upto=>⟨#[117,112,116,111]⟩
 |.Hu=>⟨#[117,112,101,115,99,97,112,101]⟩
 |.CL=>⟨#[101,115,99,97,112,101,49]⟩
structure Sc where
 m:M
 o:Int
 n:Int
 z:Bool
def qS:List UInt8:=[91,93,94,45]
def mD:List UInt8:=[46,94,36,124,63,42,43,40,41,91,93,123,125,45,47,92]
def Jw:List UInt8:=[92,46,94,36,124,63,42,43,40,41,91,123]
def xj:List UInt8:=[100,119,115]
def ti:List UInt8:=[110,116,114]
def DW:List UInt8:=[110,116,114,100,68,119,87,115,83,98,66]
def sw(c:Sc)(r:Int):Option Sc:=if r=92 then some {c with m:=.CL}else if ak qS r then none else some {c with m:=.one}
def mP(w:World)(b:Nat)(c:Sc):Prop:=ay w b #[.string c.m.str,.int .i64 c.o,.int .i64 c.n,.bool c.z] 108
def mQ(b:Nat)(x:Option Sc)(w:World)(e:Ending)(w':World):Prop:=e=.returned (.bool x.isSome)/\I (fun i=>i=b) w w'/\∀c',x=some c'->mP w' b c'
theorem iB{x:Option Sc}{c':Sc}(hx:x=some c')(hk:I (fun i=>i=b) w w')(hs:mP w' b c'):mQ b x w (.returned (.bool true)) w':=by
 subst hx;exact⟨rfl,hk,fun c'' h=>by cases h;exact hs⟩
theorem sy{x:Option Sc}(hx:x=none)(hk:I (fun i=>i=b) w w'):mQ b x w (.returned (.bool false)) w':=by
 subst hx;exact⟨rfl,hk,fun c'' h=>by cases h⟩
theorem AK{x:Option Sc}{c':Sc}{p:Bool}(hx:x=if p then some c' else none)(hk:I (fun i=>i=b) w w')(hs:mP w' b c'):mQ b x w (.returned (.bool p)) w':=by
 cases p
 ·exact sy hx hk
 ·exact iB hx hk hs
theorem ea(i:Nat)(v:Value):I (fun j=>j=b) w (w.setCell ⟨b,i,none⟩ v):=(I.refl (fun j=>j=b) w).setCell (p:=⟨b,i,none⟩) (Or.inl rfl) v
theorem kK(s:ByteArray)(l:List UInt8)(r:Int)(w:World)(hl:s.data.toList=l)(hs:s.size<=1000):
 Calls prog 59 #[.string s,.int .i64 r] w fun e w'=>e=.returned (.bool (ak l r))/\w'=w:=by
 subst hl;exact agc s r w hs
theorem QR{c:Sc}(hS:mP w b c)(r:Int):
 Calls prog 87 #[.pointer (some ⟨b,0,none⟩),.int .i64 r] w (mQ b (sw c r) w):=by
 have c0:w.cell? ⟨b,0,none⟩=some (.string c.m.str):=hS.cell 0;have f0:=hS.frozen 0;unfold sw;by_cases h1:r=92
 ·have hb:(r==92)=true:=by simp[h1]
  rw[if_pos h1];clear h1;go_in;go_wp2_with fail;go_ret;exact⟨rfl,(I.refl (fun i=>i=b) w).setCell (p:=⟨b,0,none⟩) (Or.inl rfl) _,fun c' hc=>by cases hc;exact hS.setCell 0 _⟩
 ·have hb:(r==92)=false:=by simp[h1]
  rw[if_neg h1]
  cases hk:ak qS r
  ·go_in
   go_wp2_with fail
   refine(kK _ qS _ _ (by rfl) (by decide)).mono ?_;rintro e w1 ⟨rfl,rfl⟩;rw[hk];go_wp2_with fail;go_ret;exact⟨rfl,(I.refl (fun i=>i=b) w).setCell (p:=⟨b,0,none⟩) (Or.inl rfl) _,fun c' hc=>by cases hc;exact hS.setCell 0 _⟩
  ·go_in
   go_wp2_with fail
   refine(kK _ qS _ _ (by rfl) (by decide)).mono ?_;rintro e w1 ⟨rfl,rfl⟩;rw[hk];go_wp2_with fail;go_ret;exact⟨rfl,(I.refl (fun i=>i=b) w).setCell (p:=⟨b,0,none⟩) (Or.inl rfl) _,fun c' hc=>by cases hc⟩
def nk(c:Sc)(r:Int):Option Sc:=
 if r==124 then some {c with m:=.begin}
 else if r==40 then some {c with m:=.open_,o:=c.o+1}
 else if r==41 then(if 0<=c.o-1 then some {c with m:=.times,o:=c.o-1}else none)
 else if r==91 then some {c with m:=.class_}
 else if r==92 then some {c with m:=.escape}
 else if r==46 then some {c with m:=.times}
 else if r==94 then some {c with m:=.times}
 else if r==36 then some {c with m:=.times}
 else if ak Jw r then none else some {c with m:=.times}
theorem agn{c:Sc}(hS:mP w b c)(r:Int)(ho: -1000<=c.o/\c.o<=1000):
 Calls prog 57 #[.pointer (some ⟨b,0,none⟩),.int .i64 r] w (mQ b (nk c r) w):=by
 have c0:w.cell? ⟨b,0,none⟩=some (.string c.m.str):=hS.cell 0;have f0:=hS.frozen 0;have c1:w.cell? ⟨b,1,none⟩=some (.int .i64 c.o):=hS.cell 1;have f1:=hS.frozen 1;go_in;go_wp2_with (go_at_call 59;refine(kK _ Jw _ _ (by rfl) (by decide)).mono ?_;rintro e w1 ⟨rfl,rfl⟩);all_goals go_ret
 all_goals go_light
 ·exact iB (c':={c with m:=.begin}) (by simp[nk, *]) (ea 0 _) (hS.setCell 0 _)
 ·exact iB (c':={c with m:=.open_,o:=c.o+1}) (by simp[nk, *]) ((ea 1 _).trans (ea 0 _)) ((hS.setCell 1 _).setCell 0 _)
 ·exact AK (c':={c with m:=.times,o:=c.o-1}) (by simp[nk, *]) ((ea 1 _).trans (ea 0 _)) ((hS.setCell 1 _).setCell 0 _)
 ·exact iB (c':={c with m:=.class_}) (by simp[nk, *]) (ea 0 _) (hS.setCell 0 _)
 ·exact iB (c':={c with m:=.escape}) (by simp[nk, *]) (ea 0 _) (hS.setCell 0 _)
 ·exact iB (c':={c with m:=.times}) (by simp[nk, *]) (ea 0 _) (hS.setCell 0 _)
 ·exact iB (c':={c with m:=.times}) (by simp[nk, *]) (ea 0 _) (hS.setCell 0 _)
 ·exact iB (c':={c with m:=.times}) (by simp[nk, *]) (ea 0 _) (hS.setCell 0 _)
 ·exact AK (p:=!ak Jw r) (c':={c with m:=.times}) (by cases hk:ak Jw r<;>simp[nk, *]) (ea 0 _) (hS.setCell 0 _)
def pN(c:Sc)(r:Int):Option Sc:=
 match c.m with
 |.query=>if r==58 then some {c with m:=.begin}else if r==105 then some {c with m:=.colon}else if r==60 then some {c with m:=.name,n:=0}else none
 |.colon=>if r==58 then some {c with m:=.begin}else none
 |_=>if AL r&&decide (c.n<8)then some {c with n:=c.n+1}else if r==62&&decide (0<c.n)then some {c with m:=.begin}else none
theorem Pi:tP 44=false:=by decide
theorem Lh:tP 125=false:=by decide
theorem X3:AL 62=false:=by decide
theorem ag0(hS:mP w b ⟨.query,o,n,z⟩)(r:Int):
 Calls prog 58 #[.pointer (some ⟨b,0,none⟩),.int .i64 r] w (mQ b (pN ⟨.query,o,n,z⟩ r) w):=by
 have c0:w.cell? ⟨b,0,none⟩=some (.string ⟨#[113,117,101,114,121]⟩):=hS.cell 0;have f0:=hS.frozen 0;have c2:w.cell? ⟨b,2,none⟩=some (.int .i64 n):=hS.cell 2;have f2:=hS.frozen 2;go_in;go_wp2_with fail;all_goals go_ret
 all_goals go_light
 ·exact iB (c':=⟨.begin,o,n,z⟩) (by simp[pN, *]) (ea 0 _) (hS.setCell 0 _)
 ·exact iB (c':=⟨.colon,o,n,z⟩) (by simp[pN, *]) (ea 0 _) (hS.setCell 0 _)
 ·exact iB (c':=⟨.name,o,0,z⟩) (by simp[pN, *]) ((ea 0 _).trans (ea 2 _)) ((hS.setCell 0 _).setCell 2 _)
 ·exact sy (by simp[pN, *]) (I.refl _ _)
theorem agV(hS:mP w b ⟨.colon,o,n,z⟩)(r:Int):
 Calls prog 58 #[.pointer (some ⟨b,0,none⟩),.int .i64 r] w (mQ b (pN ⟨.colon,o,n,z⟩ r) w):=by
 have c0:w.cell? ⟨b,0,none⟩=some (.string ⟨#[99,111,108,111,110]⟩):=hS.cell 0;have f0:=hS.frozen 0;go_in;go_wp2_with fail;all_goals go_ret
 all_goals go_light
 all_goals exact AK (p:=r==58) (c':=⟨.begin,o,n,z⟩) (by cases hb:(r==58)<;>simp[pN,hb]) (ea 0 _) (hS.setCell 0 _)
theorem agY(hS:mP w b ⟨.name,o,n,z⟩)(r:Int)(hn:0<=n/\n<=100):
 Calls prog 58 #[.pointer (some ⟨b,0,none⟩),.int .i64 r] w (mQ b (pN ⟨.name,o,n,z⟩ r) w):=by
 have c0:w.cell? ⟨b,0,none⟩=some (.string ⟨#[110,97,109,101]⟩):=hS.cell 0;have f0:=hS.frozen 0;have c2:w.cell? ⟨b,2,none⟩=some (.int .i64 n):=hS.cell 2;have f2:=hS.frozen 2;go_in;go_wp2_with (go_at_call 85;refine(anU _ _).mono ?_;rintro e w1 ⟨rfl,rfl⟩);all_goals go_ret
 all_goals go_light
 ·exact iB (c':=⟨.name,o,n+1,z⟩) (by simp[pN, *]) (ea 2 _) (hS.setCell 2 _)
 ·have h8:¬n<8:=by omega
  exact AK (p:=decide (0<n)) (c':=⟨.begin,o,n,z⟩) (by simp[pN,X3, *]) (ea 0 _) (hS.setCell 0 _)
 ·have h8:¬n<8:=by omega
  exact sy (by simp[pN, *]) (ea 0 _)
 ·exact AK (p:=decide (0<n)) (c':=⟨.begin,o,n,z⟩) (by simp[pN,X3, *]) (ea 0 _) (hS.setCell 0 _)
 ·exact sy (by simp[pN, *]) (ea 0 _)
def iK(c:Sc)(r:Int):Option Sc:=
 let first:=match c.m with|.low=>true|_=>false
 if tP r then(if c.n==2||(c.n==1&&c.z)then none else some {c with n:=c.n+1,z:=if c.n+1==2 then false else r==48})
 else if r==44&&first&&decide (0<c.n)then some {c with m:=.high,n:=0,z:=false}
 else if r==125&&(decide (0<c.n)|| !first)then some {c with m:=.lazy}
 else none
theorem ahK(hS:mP w b ⟨.low,o,n,z⟩)(r:Int)(hn:0<=n/\n<=2):
 Calls prog 60 #[.pointer (some ⟨b,0,none⟩),.int .i64 r] w (mQ b (iK ⟨.low,o,n,z⟩ r) w):=by
 have c0:w.cell? ⟨b,0,none⟩=some (.string ⟨#[108,111,119]⟩):=hS.cell 0;have f0:=hS.frozen 0;have c2:w.cell? ⟨b,2,none⟩=some (.int .i64 n):=hS.cell 2;have f2:=hS.frozen 2;have c3:w.cell? ⟨b,3,none⟩=some (.bool z):=hS.cell 3;have f3:=hS.frozen 3;go_in;go_wp2_with (go_at_call 86;refine(FU _ _).mono ?_;rintro e w1 ⟨rfl,rfl⟩);all_goals go_ret
 all_goals go_light
 ·exact sy (by simp[iK, *]) (I.refl _ _)
 ·exact sy (by simp[iK, *]) (I.refl _ _)
 ·exact iB (c':=⟨.low,o,2,false⟩) (by simp[iK, *]) (((ea 3 _).trans (ea 2 _)).trans (ea 3 _)) (((hS.setCell 3 _).setCell 2 _).setCell 3 _)
 ·have kt:¬n+1=2:=by omega
  exact iB (c':=⟨.low,o,n+1,r==48⟩) (by simp[iK, *]) ((ea 3 _).trans (ea 2 _)) ((hS.setCell 3 _).setCell 2 _)
 ·exact iB (c':=⟨.high,o,0,false⟩) (by simp[iK,Pi, *]) (((ea 0 _).trans (ea 2 _)).trans (ea 3 _)) (((hS.setCell 0 _).setCell 2 _).setCell 3 _)
 ·have Qu:¬0<n:=by omega
  exact sy (by simp[iK,Pi, *]) (I.refl _ _)
 ·have Qu:¬0<n:=by omega
  exact sy (by simp[iK,Lh, *]) (I.refl _ _)
 ·exact iB (c':=⟨.lazy,o,n,z⟩) (by simp[iK,Lh, *]) (ea 0 _) (hS.setCell 0 _)
 ·exact sy (by simp[iK, *]) (I.refl _ _)
theorem ahJ(hS:mP w b ⟨.high,o,n,z⟩)(r:Int)(hn:0<=n/\n<=2):
 Calls prog 60 #[.pointer (some ⟨b,0,none⟩),.int .i64 r] w (mQ b (iK ⟨.high,o,n,z⟩ r) w):=by
 have c0:w.cell? ⟨b,0,none⟩=some (.string ⟨#[104,105,103,104]⟩):=hS.cell 0;have f0:=hS.frozen 0;have c2:w.cell? ⟨b,2,none⟩=some (.int .i64 n):=hS.cell 2;have f2:=hS.frozen 2;have c3:w.cell? ⟨b,3,none⟩=some (.bool z):=hS.cell 3;have f3:=hS.frozen 3;go_in;go_wp2_with (go_at_call 86;refine(FU _ _).mono ?_;rintro e w1 ⟨rfl,rfl⟩);all_goals go_ret
 all_goals go_light
 ·exact sy (by simp[iK, *]) (I.refl _ _)
 ·exact sy (by simp[iK, *]) (I.refl _ _)
 ·exact iB (c':=⟨.high,o,2,false⟩) (by simp[iK, *]) (((ea 3 _).trans (ea 2 _)).trans (ea 3 _)) (((hS.setCell 3 _).setCell 2 _).setCell 3 _)
 ·have kt:¬n+1=2:=by omega
  exact iB (c':=⟨.high,o,n+1,r==48⟩) (by simp[iK, *]) ((ea 3 _).trans (ea 2 _)) ((hS.setCell 3 _).setCell 2 _)
 ·exact sy (by simp[iK,Pi, *]) (I.refl _ _)
 ·exact iB (c':=⟨.lazy,o,n,z⟩) (by simp[iK,Lh, *]) (ea 0 _) (hS.setCell 0 _)
 ·exact iB (c':=⟨.lazy,o,n,z⟩) (by simp[iK,Lh, *]) (ea 0 _) (hS.setCell 0 _)
 ·exact sy (by simp[iK, *]) (I.refl _ _)
def gD(c:Sc)(r:Int):Option Sc:=
 match c.m with
 |.class_=>if r==94 then some {c with m:=.first}else if r==93 then none else sw c r
 |.first=>if r==93 then none else sw c r
 |.items=>if r==93 then some {c with m:=.times}else sw c r
 |.one=>if r==45 then some {c with m:=.upto}else if r==93 then some {c with m:=.times}else sw c r
 |.upto=>if r==92 then some {c with m:=.Hu}else if ak qS r then none else some {c with m:=.items}
 |.CL=>if ak xj r then some {c with m:=.items}else if ak mD r||ak ti r then some {c with m:=.one}else none
 |_=>if ak mD r||ak ti r then some {c with m:=.items}else none
theorem class_class_(hS:mP w b ⟨.class_,o,n,z⟩)(r:Int):
 Calls prog 61 #[.pointer (some ⟨b,0,none⟩),.int .i64 r] w (mQ b (gD ⟨.class_,o,n,z⟩ r) w):=by
 have c0:w.cell? ⟨b,0,none⟩=some (.string ⟨#[99,108,97,115,115]⟩):=hS.cell 0;have f0:=hS.frozen 0;go_in;go_wp2_with (go_at_call 87;refine(QR hS _).mono ?_;rintro e w1 hp;obtain⟨he,aI,ew⟩:=hp;rw[he];clear he);all_goals go_ret
 all_goals go_light
 ·exact iB (c':=⟨.first,o,n,z⟩) (by simp[gD, *]) (ea 0 _) (hS.setCell 0 _)
 ·exact sy (by simp[gD, *]) (I.refl _ _)
 ·have e:gD ⟨.class_,o,n,z⟩ r=sw ⟨.class_,o,n,z⟩ r:=by simp[gD, *]
  rw[e];exact⟨rfl,aI,ew⟩
theorem ahq(hS:mP w b ⟨.first,o,n,z⟩)(r:Int):
 Calls prog 61 #[.pointer (some ⟨b,0,none⟩),.int .i64 r] w (mQ b (gD ⟨.first,o,n,z⟩ r) w):=by
 have c0:w.cell? ⟨b,0,none⟩=some (.string ⟨#[102,105,114,115,116]⟩):=hS.cell 0;have f0:=hS.frozen 0;go_in;go_wp2_with (go_at_call 87;refine(QR hS _).mono ?_;rintro e w1 hp;obtain⟨he,aI,ew⟩:=hp;rw[he];clear he);all_goals go_ret
 all_goals go_light
 ·exact sy (by simp[gD, *]) (I.refl _ _)
 ·have e:gD ⟨.first,o,n,z⟩ r=sw ⟨.first,o,n,z⟩ r:=by simp[gD, *]
  rw[e];exact⟨rfl,aI,ew⟩
theorem ahr(hS:mP w b ⟨.items,o,n,z⟩)(r:Int):
 Calls prog 61 #[.pointer (some ⟨b,0,none⟩),.int .i64 r] w (mQ b (gD ⟨.items,o,n,z⟩ r) w):=by
 have c0:w.cell? ⟨b,0,none⟩=some (.string ⟨#[105,116,101,109,115]⟩):=hS.cell 0;have f0:=hS.frozen 0;go_in;go_wp2_with (go_at_call 87;refine(QR hS _).mono ?_;rintro e w1 hp;obtain⟨he,aI,ew⟩:=hp;rw[he];clear he);all_goals go_ret
 all_goals go_light
 ·exact iB (c':=⟨.times,o,n,z⟩) (by simp[gD, *]) (ea 0 _) (hS.setCell 0 _)
 ·have e:gD ⟨.items,o,n,z⟩ r=sw ⟨.items,o,n,z⟩ r:=by simp[gD, *]
  rw[e];exact⟨rfl,aI,ew⟩
theorem ahs(hS:mP w b ⟨.one,o,n,z⟩)(r:Int):
 Calls prog 61 #[.pointer (some ⟨b,0,none⟩),.int .i64 r] w (mQ b (gD ⟨.one,o,n,z⟩ r) w):=by
 have c0:w.cell? ⟨b,0,none⟩=some (.string ⟨#[111,110,101]⟩):=hS.cell 0;have f0:=hS.frozen 0;go_in;go_wp2_with (go_at_call 87;refine(QR hS _).mono ?_;rintro e w1 hp;obtain⟨he,aI,ew⟩:=hp;rw[he];clear he);all_goals go_ret
 all_goals go_light
 ·exact iB (c':=⟨.upto,o,n,z⟩) (by simp[gD, *]) (ea 0 _) (hS.setCell 0 _)
 ·exact iB (c':=⟨.times,o,n,z⟩) (by simp[gD, *]) (ea 0 _) (hS.setCell 0 _)
 ·have e:gD ⟨.one,o,n,z⟩ r=sw ⟨.one,o,n,z⟩ r:=by simp[gD, *]
  rw[e];exact⟨rfl,aI,ew⟩
theorem ahx(hS:mP w b ⟨.upto,o,n,z⟩)(r:Int):
 Calls prog 61 #[.pointer (some ⟨b,0,none⟩),.int .i64 r] w (mQ b (gD ⟨.upto,o,n,z⟩ r) w):=by
 have c0:w.cell? ⟨b,0,none⟩=some (.string ⟨#[117,112,116,111]⟩):=hS.cell 0;have f0:=hS.frozen 0;go_in;go_wp2_with (go_at_call 59;refine(kK _ qS _ _ (by rfl) (by decide)).mono ?_;rintro e w1 ⟨rfl,rfl⟩);all_goals go_ret
 all_goals go_light
 ·exact iB (c':=⟨.Hu,o,n,z⟩) (by simp[gD, *]) (ea 0 _) (hS.setCell 0 _)
 ·exact AK (p:=!ak qS r) (c':=⟨.items,o,n,z⟩) (by cases hk:ak qS r<;>simp[gD, *]) (ea 0 _) (hS.setCell 0 _)
theorem ahw(hS:mP w b ⟨.Hu,o,n,z⟩)(r:Int):
 Calls prog 61 #[.pointer (some ⟨b,0,none⟩),.int .i64 r] w (mQ b (gD ⟨.Hu,o,n,z⟩ r) w):=by
 have c0:w.cell? ⟨b,0,none⟩=some (.string ⟨#[117,112,101,115,99,97,112,101]⟩):=hS.cell 0;have f0:=hS.frozen 0
 cases hm:ak mD r
 ·go_in
  go_wp2_with fail
  refine(kK _ mD _ _ (by rfl) (by decide)).mono ?_;rintro e w1 ⟨rfl,rfl⟩;rw[hm];go_wp2_with fail;refine(kK _ ti _ _ (by rfl) (by decide)).mono ?_;rintro e w1 ⟨rfl,rfl⟩;go_wp2_with fail;go_ret;exact AK (p:=ak ti r) (c':=⟨.items,o,n,z⟩) (by cases hk:ak ti r<;>simp[gD,hm,hk]) (ea 0 _) (hS.setCell 0 _)
 ·go_in
  go_wp2_with fail
  refine(kK _ mD _ _ (by rfl) (by decide)).mono ?_;rintro e w1 ⟨rfl,rfl⟩;rw[hm];go_wp2_with fail;go_ret;exact iB (c':=⟨.items,o,n,z⟩) (by simp[gD,hm]) (ea 0 _) (hS.setCell 0 _)
theorem ahp(hS:mP w b ⟨.CL,o,n,z⟩)(r:Int):
 Calls prog 61 #[.pointer (some ⟨b,0,none⟩),.int .i64 r] w (mQ b (gD ⟨.CL,o,n,z⟩ r) w):=by
 have c0:w.cell? ⟨b,0,none⟩=some (.string ⟨#[101,115,99,97,112,101,49]⟩):=hS.cell 0;have f0:=hS.frozen 0
 cases hd:ak xj r
 ·cases hm:ak mD r
  ·go_in
   go_wp2_with fail
   refine(kK _ xj _ _ (by rfl) (by decide)).mono ?_;rintro e w1 ⟨rfl,rfl⟩;rw[hd];go_wp2_with fail;refine(kK _ mD _ _ (by rfl) (by decide)).mono ?_;rintro e w1 ⟨rfl,rfl⟩;rw[hm];go_wp2_with fail;refine(kK _ ti _ _ (by rfl) (by decide)).mono ?_;rintro e w1 ⟨rfl,rfl⟩;go_wp2_with fail;go_ret;exact AK (p:=ak ti r) (c':=⟨.one,o,n,z⟩) (by cases hk:ak ti r<;>simp[gD,hd,hm,hk]) (ea 0 _) (hS.setCell 0 _)
  ·go_in
   go_wp2_with fail
   refine(kK _ xj _ _ (by rfl) (by decide)).mono ?_;rintro e w1 ⟨rfl,rfl⟩;rw[hd];go_wp2_with fail;refine(kK _ mD _ _ (by rfl) (by decide)).mono ?_;rintro e w1 ⟨rfl,rfl⟩;rw[hm];go_wp2_with fail;go_ret;exact iB (c':=⟨.one,o,n,z⟩) (by simp[gD,hd,hm]) (ea 0 _) (hS.setCell 0 _)
 ·go_in
  go_wp2_with fail
  refine(kK _ xj _ _ (by rfl) (by decide)).mono ?_;rintro e w1 ⟨rfl,rfl⟩;rw[hd];go_wp2_with fail;go_ret;exact iB (c':=⟨.items,o,n,z⟩) (by simp[gD,hd]) (ea 0 _) (hS.setCell 0 _)
def eB(c:Sc)(r:Int):Option Sc:=
 match c.m with
 |.begin|.more=>nk c r
 |.open_=>if r==63 then some {c with m:=.query}else nk c r
 |.query|.colon|.name=>pN c r
 |.escape=>if ak mD r||ak DW r then some {c with m:=.times}else none
 |.low|.high=>iK c r
 |.times=>if r==42 then some {c with m:=.lazy}else if r==43 then some {c with m:=.lazy}else if r==63 then some {c with m:=.lazy}else if r==123 then some {c with m:=.low,n:=0,z:=false}else nk c r
 |.lazy=>if r==63 then some {c with m:=.more}else nk c r
 |_=>gD c r
theorem R4{e:Ending}{x y:Option Sc}(h:x=y)(p:mQ b y w e w'):mQ b x w e w':=by rw[h];exact p
theorem an_(hS:mP w b ⟨.escape,o,n,z⟩)(r:Int)(ho: -1000<=o/\o<=1000):
 Calls prog 33 #[.pointer (some ⟨b,0,none⟩),.int .i64 r] w (mQ b (eB ⟨.escape,o,n,z⟩ r) w):=by
 have c0:w.cell? ⟨b,0,none⟩=some (.string ⟨#[101,115,99,97,112,101]⟩):=hS.cell 0;have f0:=hS.frozen 0
 cases hm:ak mD r
 ·go_in
  go_wp2_with fail
  refine(kK _ mD _ _ (by rfl) (by decide)).mono ?_;rintro e w1 ⟨rfl,rfl⟩;rw[hm];go_wp2_with fail;refine(kK _ DW _ _ (by rfl) (by decide)).mono ?_;rintro e w1 ⟨rfl,rfl⟩;go_wp2_with fail;go_ret;exact AK (p:=ak DW r) (c':=⟨.times,o,n,z⟩) (by cases hk:ak DW r<;>simp[eB,hm,hk]) (ea 0 _) (hS.setCell 0 _)
 ·go_in
  go_wp2_with fail
  refine(kK _ mD _ _ (by rfl) (by decide)).mono ?_;rintro e w1 ⟨rfl,rfl⟩;rw[hm];go_wp2_with fail;go_ret;exact iB (c':=⟨.times,o,n,z⟩) (by simp[eB,hm]) (ea 0 _) (hS.setCell 0 _)
def Sc.aV(c:Sc)(i:Int):Prop:=0<=c.o/\c.o<=i/\0<=c.n/\c.n<=8/\((c.m=.low\/c.m=.high)->c.n<=2)
theorem an8{c:Sc}(hS:mP w b c)(r i:Int)(hi:i<=1000)(hc:c.aV i):
 Calls prog 33 #[.pointer (some ⟨b,0,none⟩),.int .i64 r] w (mQ b (eB c r) w):=by
 obtain⟨m,o,n,z⟩:=c;obtain⟨h1,h2,h3,h4,h5⟩:=hc;simp only at h1 h2 h3 h4 h5;have ho: -1000<=o/\o<=1000:=by omega
 have hn:0<=n/\n<=100:=by omega
 have f0:=hS.frozen 0;have c2:w.cell? ⟨b,2,none⟩=some (.int .i64 n):=hS.cell 2;have f2:=hS.frozen 2;have c3:w.cell? ⟨b,3,none⟩=some (.bool z):=hS.cell 3;have f3:=hS.frozen 3;have c0:w.cell? ⟨b,0,none⟩=some (.string m.str):=hS.cell 0
 cases m
 case escape=>exact an_ hS r ho
 case' low=>have hm:=h5 (by simp)
 case' high=>have hm:=h5 (by simp)
 all_goals
  simp only[M.str]at c0;clear h1 h2 h4 h5;go_in
  go_wp2_with (first
   |(go_at_call 57;refine(agn hS _ ho).mono ?_;rintro e w1 hp;obtain⟨he,aI,ew⟩:=hp;rw[he];clear he)
   |(go_at_call 58;first|refine(ag0 hS _).mono ?_ |refine(agV hS _).mono ?_ |refine(agY hS _ hn).mono ?_
     rintro e w1 hp;obtain⟨he,aI,ew⟩:=hp;rw[he];clear he)
   |(go_at_call 60;first|refine(ahK hS _ ⟨h3,hm⟩).mono ?_ |refine(ahJ hS _ ⟨h3,hm⟩).mono ?_
     rintro e w1 hp;obtain⟨he,aI,ew⟩:=hp;rw[he];clear he)
   |(go_at_call 61;first|refine(class_class_ hS _).mono ?_ |refine(ahq hS _).mono ?_ |refine(ahr hS _).mono ?_ |refine(ahs hS _).mono ?_ |refine(ahx hS _).mono ?_ |refine(ahw hS _).mono ?_ |refine(ahp hS _).mono ?_
     rintro e w1 hp;obtain⟨he,aI,ew⟩:=hp;rw[he];clear he))
  all_goals go_ret
  all_goals go_light
  all_goals first
   |exact R4 (y:=nk _ r) (by simp[eB, *]) ⟨rfl,aI,ew⟩
   |exact R4 (y:=pN _ r) (by simp[eB, *]) ⟨rfl,aI,ew⟩
   |exact R4 (y:=iK _ r) (by simp[eB, *]) ⟨rfl,aI,ew⟩
   |exact R4 (y:=gD _ r) (by simp[eB, *]) ⟨rfl,aI,ew⟩
   |exact iB (c':=⟨.query,o,n,z⟩) (by simp[eB, *]) (ea 0 _) (hS.setCell 0 _)
   |exact iB (c':=⟨.more,o,n,z⟩) (by simp[eB, *]) (ea 0 _) (hS.setCell 0 _)
   |exact iB (c':=⟨.lazy,o,n,z⟩) (by simp[eB, *]) (ea 0 _) (hS.setCell 0 _)
   |exact iB (c':=⟨.low,o,0,false⟩) (by simp[eB, *]) (((ea 0 _).trans (ea 2 _)).trans (ea 3 _)) (((hS.setCell 0 _).setCell 2 _).setCell 3 _)
open Go.Maps
structure bu where
 dd:Option Int
 form:Option Int
 rep:Option Int
 cls:Option Int
 kX:Option Int
 rF:Option Int
def bu.get(f:bu)(e:Int):Option Int:=
 if e=2 then f.dd else if e=3 then f.form else if e=4 then f.rep else if e=5 then f.cls else if e=6 then f.kX else if e=7 then f.rF else none
def bu.put(f:bu)(e:Int)(p:Int):bu:=
 if e=2 then{f with dd:=some p}else if e=3 then{f with form:=some p}else if e=4 then{f with rep:=some p}else if e=5 then{f with cls:=some p}
 else if e=6 then{f with kX:=some p}else if e=7 then{f with rF:=some p}else f
def bu.bG(f:bu)(e:Int)(p:Int):bu:=if(f.get e).isSome then f else f.put e p
def z_(o:Option Int):Nat:=if o.isSome then 1 else 0
def bu.wB(f:bu):Nat:=z_ f.dd+z_ f.form+z_ f.rep+z_ f.cls+z_ f.kX+z_ f.rF
theorem JG(o:Option Int):z_ o<=1:=by unfold z_;split<;>omega
theorem bu.aaA(f:bu):f.wB<=6:=by
 have:=JG f.dd;have:=JG f.form;have:=JG f.rep;have:=JG f.cls;have:=JG f.kX;have:=JG f.rF;unfold bu.wB;omega
theorem bu.abq(f:bu)(e e' p:Int)(h:2<=e/\e<=7):(f.put e p).get e'=if e'=e then some p else f.get e':=by
 have:e=2\/e=3\/e=4\/e=5\/e=6\/e=7:=by omega
 rcases this with rfl|rfl|rfl|rfl|rfl|rfl<;>simp[bu.put,bu.get]<;>(repeat' split)<;>first|rfl|omega|simp_all
theorem bu.T2(f:bu)(e p:Int)(h:2<=e/\e<=7)(hn:(f.get e).isSome=false):(f.put e p).wB=f.wB+1:=by
 have:e=2\/e=3\/e=4\/e=5\/e=6\/e=7:=by omega
 rcases this with rfl|rfl|rfl|rfl|rfl|rfl<;>simp[bu.get]at hn<;>simp[bu.put,bu.wB,z_,hn]<;>omega
structure xF(D:DataW Unit)(F:bu):Prop where
 isMap:IsMap D
 has:∀e,Maps.has D (.int .i64 e)=(F.get e).isSome
 val:∀e p,F.get e=some p->D.atKey (.int .i64 e) (.lit (.int .i64 0))=.lit (.int .i64 p)
 size:Maps.size D=F.wB
structure Ib(D:DataW Unit)(l:List (List UInt8×Nat)):Prop where
 isMap:IsMap D
 has:∀s,Maps.has D (.string s)=l.any (fun p=>p.1==s)
 val:∀s k,(s,k) ∈l->D.atKey (.string s) (.lit (.int .i64 0))=.lit (.int .i64 k)
 size:Maps.size D=l.length
theorem acR(e:Int):WideAt.IsKeyLit (.int .i64 e):=by simp[WideAt.IsKeyLit]
theorem acS(s:List UInt8):WideAt.IsKeyLit (.string s):=by simp[WideAt.IsKeyLit]
theorem xF.put{F:bu}(h:xF D F)(ht:Tidy D)(e p:Int)(he:2<=e/\e<=7)(hn:(F.get e).isSome=false):xF (D.put (.int .i64 e) (.lit (.int .i64 p))) (F.put e p) where
 isMap:=h.isMap.put _ _
 has e':=by
  rw[bu.abq F e e' p he];by_cases x:e'=e
  ·subst x;simp[has_put_same h.isMap (acR _)]
  ·rw[has_put_other (by simpa using x),h.has];simp[x]
 val e' q hq:=by
  rw[bu.abq F e e' p he]at hq;by_cases x:e'=e
  ·subst x;simp at hq;subst hq;exact atKey_put_same h.isMap (acR _) _ _
  ·rw[if_neg x]at hq;rw[atKey_put_other (by simpa using x)];exact h.val e' q hq
 size:=by
  rw[Maps.size_put ht,h.has,hn,if_neg (by simp),h.size,bu.T2 F e p he hn]
theorem Ib.put{l:List (List UInt8×Nat)}(h:Ib D l)(ht:Tidy D)(s:List UInt8)(k:Nat)(hn:l.any (fun p=>p.1==s)=false):Ib (D.put (.string s) (.lit (.int .i64 k))) ((s,k)::l) where
 isMap:=h.isMap.put _ _
 has s':=by
  by_cases x:s'=s
  ·subst x;simp[has_put_same h.isMap (acS _)]
  ·rw[has_put_other (by simpa using x),h.has];have:(s==s')=false:=by simp;exact fun e=>x e.symm
   simp[this]
 val s' q hq:=by
  by_cases x:s'=s
  ·subst x;rcases Bk.1 hq with hq|hq
   ·cases hq;exact atKey_put_same h.isMap (acS _) _ _
   ·exfalso
    have:=Ee.1 hn _ hq;simp at this
  ·rw[atKey_put_other (by simpa using x)];rcases Bk.1 hq with hq|hq
   ·cases hq;exact absurd rfl x
   ·exact h.val s' q hq
 size:=by
  rw[Maps.size_put ht,h.has,hn,if_neg (by simp),h.size];simp
structure RG where
 b:Nat
 ao:Option Addr
 br:Nat
 cr:Nat
 bp:Nat
 cp:Nat
 bf:Nat
 bn:Nat
 rs:List Int
 ps:List Int
structure RS where
 next:Nat
 au:bu
 aC:Nat
 names:List (List UInt8×Nat)
def RG.aN(g:RG):Nat->Prop:=fun k=>k=g.b\/k=g.bf\/k=g.bn
def RG.use(g:RG):Nat->Prop:=fun k=>k=g.b\/k=g.bf\/k=g.bn\/k=g.br\/k=g.bp
def ahi(g:RG)(fo:Bool)(st:RS):Array Value:=
 #[.slice g.ao g.rs.length g.cr,.slice (some ⟨g.bp,0,none⟩) (g.rs.length+1) g.cp,.int .i64 st.next,.map (some g.bf),.bool fo,.int .i64 st.aC,.map (some g.bn)]
structure aZ(w:World)(g:RG)(fo:Bool)(st:RS):Prop where
 ae:ay w g.b (ahi g fo st) 82
 isSome:0<g.rs.length->g.ao=some ⟨g.br,0,none⟩
 gC:∀i,i<g.rs.length->w.cell? ⟨g.br,i,none⟩=some (.int .i32 (g.rs.getD i 0))
 places:∀i,i<g.rs.length+1->w.cell? ⟨g.bp,i,none⟩=some (.int .i64 (g.ps.getD i 0))
 ph:g.br<w.heap.size
 pg:g.bp<w.heap.size
 oc:∀i,0<=g.ps.getD i 0/\g.ps.getD i 0<=300
 su:∀r∈g.rs,0<=r/\r<=1114111
 fm:∃D,w.ownsMap prog 27 (plainElem (H:=Unit) prog 3) g.bf (Maps.size D) D/\xF D st.au
 nm:∃D,w.ownsMap prog 9 (plainElem (H:=Unit) prog 3) g.bn (Maps.size D) D/\Ib D st.names
 len:g.rs.length<=300
 oA:g.rs.length<=g.cr
 next:st.next<=g.rs.length
 aC:st.aC<=st.next
 names:st.names.length<=st.aC
 eD:g.b≠g.br/\g.b≠g.bp/\g.b≠g.bf/\g.b≠g.bn/\g.bf≠g.br/\g.bf≠g.bp/\g.bf≠g.bn/\g.bn≠g.br/\g.bn≠g.bp
theorem qo{k:TypeId}{R:Value->Option (DataW Unit×List MemPlace)}{n:Nat}(h:w.ownsMap prog k R b n D)(hk:I S w w')(hs:¬S b):w'.ownsMap prog k R b n D:=by
 have ar:=h.lt;obtain⟨es,clock,hb,r⟩:=h;exact⟨es,clock,(hk.block b ar hs).trans hb,r⟩
theorem aZ.gR{g:RG}{st:RS}(h:aZ w g fo st):g.b<w.heap.size:=h.ae.lt
theorem aZ.kept{g:RG}{st:RS}(h:aZ w g fo st)(k:I S w w')(hs:∀i,g.use i->¬S i):aZ w' g fo st where
 ae:=h.ae.kept k (hs _ (by simp[RG.use]))
 isSome:=h.isSome
 gC i hi:=(k.cell (p:=⟨g.br,i,none⟩) h.ph (hs _ (by simp[RG.use]))).trans (h.gC i hi)
 places i hi:=(k.cell (p:=⟨g.bp,i,none⟩) h.pg (hs _ (by simp[RG.use]))).trans (h.places i hi)
 ph:=A3 h.ph k.size
 pg:=A3 h.pg k.size
 oc:=h.oc
 su:=h.su
 fm:=by obtain⟨D,hD,hF⟩:=h.fm;exact⟨D,qo hD k (hs _ (by simp[RG.use])),hF⟩
 nm:=by obtain⟨D,hD,hF⟩:=h.nm;exact⟨D,qo hD k (hs _ (by simp[RG.use])),hF⟩
 len:=h.len
 oA:=h.oA
 next:=h.next
 aC:=h.aC
 names:=h.names
 eD:=h.eD
theorem aZ.nil{g:RG}{st:RS}(h:aZ w g fo st)(k:I aq w w'):aZ w' g fo st:=h.kept k (fun _ _ hx=>hx)
theorem aZ.oZ{g:RG}{st:RS}(h:aZ w g fo st)(m:Nat)(hm:m<=g.rs.length)(hg:st.aC<=m):aZ (w.setCell ⟨g.b,2,none⟩ (.int .i64 m)) g fo {st with next:=m} where
 ae:=h.ae.setCell 2 _
 isSome:=h.isSome
 gC i hi:=by
  rw[Bm (w:=w) (Ca w _ _ g.br (fun e=>h.eD.1 e.symm))];exact h.gC i hi
 places i hi:=by
  rw[Bm (w:=w) (Ca w _ _ g.bp (fun e=>h.eD.2.1 e.symm))];exact h.places i hi
 ph:=by have:=h.ph;simpa[World.setCell]using this
 pg:=by have:=h.pg;simpa[World.setCell]using this
 oc:=h.oc
 su:=h.su
 fm:=by obtain⟨D,hD,hF⟩:=h.fm;exact⟨D,hD.setCell (a:=⟨g.b,2,none⟩) (fun e=>h.eD.2.2.1 e.symm) _,hF⟩
 nm:=by obtain⟨D,hD,hF⟩:=h.nm;exact⟨D,hD.setCell (a:=⟨g.b,2,none⟩) (fun e=>h.eD.2.2.2.1 e.symm) _,hF⟩
 len:=h.len
 oA:=h.oA
 next:=hm
 aC:=hg
 names:=h.names
 eD:=h.eD
theorem aZ.vO{g:RG}{st:RS}(h:aZ w g fo st)(f2:Bool):aZ (w.setCell ⟨g.b,4,none⟩ (.bool f2)) g f2 st where
 ae:=h.ae.setCell 4 _
 isSome:=h.isSome
 gC i hi:=by
  rw[Bm (w:=w) (Ca w _ _ g.br (fun e=>h.eD.1 e.symm))];exact h.gC i hi
 places i hi:=by
  rw[Bm (w:=w) (Ca w _ _ g.bp (fun e=>h.eD.2.1 e.symm))];exact h.places i hi
 ph:=by have:=h.ph;simpa[World.setCell]using this
 pg:=by have:=h.pg;simpa[World.setCell]using this
 oc:=h.oc
 su:=h.su
 fm:=by obtain⟨D,hD,hF⟩:=h.fm;exact⟨D,hD.setCell (a:=⟨g.b,4,none⟩) (fun e=>h.eD.2.2.1 e.symm) _,hF⟩
 nm:=by obtain⟨D,hD,hF⟩:=h.nm;exact⟨D,hD.setCell (a:=⟨g.b,4,none⟩) (fun e=>h.eD.2.2.2.1 e.symm) _,hF⟩
 len:=h.len
 oA:=h.oA
 next:=h.next
 aC:=h.aC
 names:=h.names
 eD:=h.eD
theorem EM(g:RG)(i:Nat)(v:Value):I g.aN w (w.setCell ⟨g.b,i,none⟩ v):=(I.refl _ _).setCell (Or.inl (by simp[RG.aN])) v
theorem aeA{g:RG}{st:RS}(h:aZ w g fo st):
 Calls prog 72 #[.pointer (some ⟨g.b,0,none⟩)] w fun e w'=>e=.returned (.int .i64 (g.ps.getD st.next 0))/\I aq w w':=by
 have c1:w.cell? ⟨g.b,1,none⟩=some (.slice (some ⟨g.bp,0,none⟩) (g.rs.length+1) g.cp):=h.ae.cell 1;have c2:w.cell? ⟨g.b,2,none⟩=some (.int .i64 st.next):=h.ae.cell 2;have hn:=h.next
 have hl:=h.len;have cp:=h.places st.next (by omega)
 have ar:st.next<g.rs.length+1:=by omega
 clear h;go_in;go_wp2;go_region;all_goals go_wp2
 all_goals go_ret
 all_goals exact⟨rfl,(I.refl _ _).drew⟩
def aa(g:RG)(st:RS):Int:=g.rs.getD st.next (-1)
theorem NT{g:RG}{st:RS}(h:aZ w g fo st):
 Calls prog 42 #[.pointer (some ⟨g.b,0,none⟩)] w fun e w'=>e=.returned (.int .i32 (aa g st))/\I aq w w':=by
 have c0:w.cell? ⟨g.b,0,none⟩=some (.slice g.ao g.rs.length g.cr):=h.ae.cell 0;have c2:w.cell? ⟨g.b,2,none⟩=some (.int .i64 st.next):=h.ae.cell 2;have hn:=h.next
 have hl:=h.len;by_cases ar:st.next<g.rs.length
 ·have eu:=h.isSome (by omega);rw[eu]at c0;have cp:=h.gC st.next ar
  have aF:((st.next:Int)==(g.rs.length:Int))=false:=by simp;omega
  have hs:g.rs.getD st.next 0=aa g st:=by simp[aa,List.getD,Ab ar]
  rw[hs]at cp;clear h eu hs;go_in;go_wp2;go_region;all_goals go_wp2
  all_goals go_region
  all_goals go_wp2
  all_goals go_ret
  all_goals exact⟨rfl,(I.refl _ _).drew.drew⟩
 ·have aF:((st.next:Int)==(g.rs.length:Int))=true:=by simp;omega
  have hs:aa g st= -1:=by simp[aa,List.getD,Bd (by omega:g.rs.length<=st.next)]
  rw[hs];clear h hs;go_in;go_wp2;go_region;all_goals go_wp2
  all_goals go_ret
  all_goals exact⟨rfl,(I.refl _ _).drew⟩
theorem aZ.JU{g:RG}{st:RS}(h:aZ w g fo st)(iL:RS): -1<=aa g iL/\aa g iL<=1114111:=by
 unfold aa;by_cases hl:iL.next<g.rs.length
 ·have e:g.rs.getD iL.next (-1)=g.rs[iL.next]:=by simp[List.getD,Ab hl]
  have:=h.su _ (Ay hl);rw[e];omega
 ·have e:g.rs.getD iL.next (-1)= -1:=by simp[List.getD,Bd (by omega:g.rs.length<=iL.next)]
  rw[e];omega
theorem fj{g:RG}{st:RS}(h:ak l (aa g st)=true):st.next<g.rs.length:=by
 apply Bz
 intro hn;have:aa g st= -1:=by simp[aa,List.getD,Bd (by omega:g.rs.length<=st.next)]
 rw[this]at h;unfold ak at h;obtain⟨b,_,hb⟩:=Cx.1 h;have:=Ai.1 hb;omega
theorem NU{g:RG}{st:RS}(h:aZ w g fo st)(s:ByteArray)(hs:∀b∈s.data.toList,b.toNat<128):
 Calls prog 97 #[.pointer (some ⟨g.b,0,none⟩),.string s] w fun e w'=>e=.returned (.bool (ak s.data.toList (aa g st)))/\I aq w w':=by
 go_in
 go_wp2_with (first|(go_at_call 42;refine(NT h).mono ?_;rintro e w1 ⟨rfl,aI⟩)|(go_at_call 111;refine(ahF _ _ _ hs).mono ?_;rintro e w2 ⟨rfl,aG⟩))
 go_ret
 exact⟨rfl,I.trans (by assumption) (by assumption)⟩
def bT(g:RG)(l:List UInt8)(st:RS):RS:=if ak l (aa g st)then{st with next:=st.next+1}else st
theorem Ya{g:RG}{st:RS}(h:aZ w g fo st)(s:ByteArray)(hs:∀b∈s.data.toList,b.toNat<128)(hy:ak s.data.toList (aa g st)=true):
 Calls prog 71 #[.pointer (some ⟨g.b,0,none⟩),.string s] w fun e w'=>e=.returned (.bool true)/\aZ w' g fo {st with next:=st.next+1}/\I g.aN w w':=by
 have ar:=fj hy;have hl:=h.len;go_in;go_wp2_with fail;refine(NU h s hs).mono ?_;rintro e w1 ⟨rfl,aI⟩;have h1:=h.nil aI;have c2:w1.cell? ⟨g.b,2,none⟩=some (.int .i64 st.next):=h1.ae.cell 2;have f2:=h1.ae.frozen 2;rw[hy];go_wp2_with fail;go_ret;refine⟨rfl,?_,(aI.mono (fun _ hx=>hx.elim)).trans (EM g 2 _)⟩;have:=h1.oZ (st.next+1) (by omega) (by have:=h.aC;omega);simpa using this
theorem X_{g:RG}{st:RS}(h:aZ w g fo st)(s:ByteArray)(hs:∀b∈s.data.toList,b.toNat<128)(hy:ak s.data.toList (aa g st)=false):
 Calls prog 71 #[.pointer (some ⟨g.b,0,none⟩),.string s] w fun e w'=>e=.returned (.bool false)/\aZ w' g fo st/\I g.aN w w':=by
 go_in
 go_wp2_with fail
 refine(NU h s hs).mono ?_;rintro e w1 ⟨rfl,aI⟩;rw[hy];go_wp2_with fail;go_ret;exact⟨rfl,h.nil aI,aI.mono (fun _ hx=>hx.elim)⟩
theorem an6{g:RG}{st:RS}(h:aZ w g fo st)(s:ByteArray)(hs:∀b∈s.data.toList,b.toNat<128):
 Calls prog 71 #[.pointer (some ⟨g.b,0,none⟩),.string s] w fun e w'=>e=.returned (.bool (ak s.data.toList (aa g st)))/\aZ w' g fo (bT g s.data.toList st)/\I g.aN w w':=by
 unfold bT
 cases hy:ak s.data.toList (aa g st)
 ·exact X_ h s hs hy
 ·exact Ya h s hs hy
theorem yO(w:World):(zeroValue 3).run prog w=.ok (.int .i64 0) w:=by kernel_rfl
theorem yx:Keyed prog 27:=int_keyed underlying27
theorem ED:Keyed prog 9:=string_keyed underlying9
def RS.bG(st:RS)(e p:Int):RS:={st with au:=st.au.bG e p}
theorem aZ.W1{g:RG}{st:RS}(h:aZ w g fo st)(F:bu)(hD:w'.ownsMap prog 27 (plainElem (H:=Unit) prog 3) g.bf (Maps.size D) D)(hF:xF D F)
 (k:I (fun i=>i=g.bf) w w'):aZ w' g fo {st with au:=F} where
 ae:=h.ae.kept k (fun e=>h.eD.2.2.1 e)
 isSome:=h.isSome
 gC i hi:=(k.cell (p:=⟨g.br,i,none⟩) h.ph (fun e=>h.eD.2.2.2.2.1 e.symm)).trans (h.gC i hi)
 places i hi:=(k.cell (p:=⟨g.bp,i,none⟩) h.pg (fun e=>h.eD.2.2.2.2.2.1 e.symm)).trans (h.places i hi)
 ph:=A3 h.ph k.size
 pg:=A3 h.pg k.size
 oc:=h.oc
 su:=h.su
 fm:=⟨D,hD,hF⟩
 nm:=by obtain⟨D,hD,hF⟩:=h.nm;exact⟨D,qo hD k (fun e=>h.eD.2.2.2.2.2.2.1 e.symm),hF⟩
 len:=h.len
 oA:=h.oA
 next:=h.next
 aC:=h.aC
 names:=h.names
 eD:=h.eD
theorem He{g:RG}{st:RS}(h:aZ w g fo st)(e p:Int)(he:2<=e/\e<=7)(hp:0<=p/\p<=300):
 Calls prog 26 #[.pointer (some ⟨g.b,0,none⟩),.int .i64 e,.int .i64 p] w fun en w'=>en=.returned (.tuple #[])/\aZ w' g fo (st.bG e p)/\I g.aN w w':=by
 have c3:w.cell? ⟨g.b,3,none⟩=some (.map (some g.bf)):=h.ae.cell 3;obtain⟨D,hD,hF⟩:=h.fm;have oF:keyOf prog 27 (.int .i64 e)=some (.int .i64 e):=keyOf_int_mk underlying27 (Cy (by omega));have bm:Maps.size D<maxLen:=by rw[hF.size];have:=st.au.aaA;unfold maxLen;omega
 go_in
 go_wp2_with (first|(at_lookup;refine Bg _ rfl _ _ 80 rfl 27 3 .i64 yx underlying80 underlying3 (yO _) g.bf _ D rfl hD _ _ rfl oF ?_;intro c qJ zH)|(at_mapUpdate;refine wpList_mapUpdate_own _ rfl _ _ _ 80 rfl 27 3 yx underlying80 _ g.bf _ _ rfl hD bm _ _ _ rfl rfl oF _ [] (plainElem_int underlying3 (Cy (by omega))) ?_;intro w1 wX Gt))
 ·have dt:has D (.int .i64 e)=false:=by have:(!has D (.int .i64 e))=true:=by assumption
                                        simpa using this
  rw[hF.has]at dt;have hF':=hF.put (hD.tidy yx) e p he dt;go_end0;refine⟨rfl,?_,?_⟩
  ·have hn:st.bG e p={st with au:=st.au.put e p}:=(by simp[RS.bG,bu.bG,dt]);rw[hn];refine h.W1 (D:=D.put (.int .i64 e) (.lit (.int .i64 p))) _ ?_ hF' ((I.refl _ _).dn (by assumption) (fun k hk=>Or.inl (by cases hk;rfl)));have e1:Maps.size (D.put (.int .i64 e) (.lit (.int .i64 p)))=Maps.size D+1:=(by rw[hF'.size,hF.size,bu.T2 _ _ _ he dt]);rw[e1];assumption
  ·exact(I.refl _ _).dn (by assumption) (fun k hk=>Or.inl (by cases hk;simp[RG.aN]))
 ·have zI:has D (.int .i64 e)=true:=by have:(!has D (.int .i64 e))=false:=by assumption
                                       simpa using this
  rw[hF.has]at zI;go_end0;refine⟨rfl,?_,I.refl _ _⟩;have hn:st.bG e p=st:=by simp[RS.bG,bu.bG,zI]
  rw[hn];exact h
theorem aZ.named{g:RG}{st:RS}(h:aZ w g fo st)(l:List (List UInt8×Nat))(hD:w'.ownsMap prog 9 (plainElem (H:=Unit) prog 3) g.bn (Maps.size D) D)(hF:Ib D l)
 (k:I (fun i=>i=g.bn) w w')(hn:l.length<=st.aC):aZ w' g fo {st with names:=l} where
 ae:=h.ae.kept k (fun e=>h.eD.2.2.2.1 e)
 isSome:=h.isSome
 gC i hi:=(k.cell (p:=⟨g.br,i,none⟩) h.ph (fun e=>h.eD.2.2.2.2.2.2.2.1 e.symm)).trans (h.gC i hi)
 places i hi:=(k.cell (p:=⟨g.bp,i,none⟩) h.pg (fun e=>h.eD.2.2.2.2.2.2.2.2 e.symm)).trans (h.places i hi)
 ph:=A3 h.ph k.size
 pg:=A3 h.pg k.size
 oc:=h.oc
 su:=h.su
 fm:=by obtain⟨D,hD,hF⟩:=h.fm;exact⟨D,qo hD k (fun e=>h.eD.2.2.2.2.2.2.1 e),hF⟩
 nm:=⟨D,hD,hF⟩
 len:=h.len
 oA:=h.oA
 next:=h.next
 aC:=h.aC
 names:=hn
 eD:=h.eD
def cx(g:RG)(st:RS):Int:=g.ps.getD st.next 0
def mJ(g:RG)(st:RS):RS:={st.bG 3 (cx g st)with next:=g.rs.length}
theorem NK{g:RG}{st:RS}(h:aZ w g fo st):
 Calls prog 43 #[.pointer (some ⟨g.b,0,none⟩)] w fun en w'=>en=.returned (.tuple #[])/\aZ w' g fo (mJ g st)/\I g.aN w w':=by
 have hp:=h.oc st.next
 go_in
 go_wp2_with fail
 refine(aeA h).mono ?_;rintro e w1 ⟨rfl,aI⟩;have h1:=h.nil aI;go_wp2_with fail;refine(He h1 3 _ (by omega) hp).mono ?_;rintro e w2 ⟨rfl,h2,aG⟩;have c0:w2.cell? ⟨g.b,0,none⟩=some (.slice g.ao g.rs.length g.cr):=h2.ae.cell 0;have c2:w2.cell? ⟨g.b,2,none⟩=some (.int .i64 st.next):=h2.ae.cell 2;have f2:=h2.ae.frozen 2;go_wp2_with fail;go_end0;exact⟨rfl,h2.oZ g.rs.length (Aa _) (by have:=h2.aC;have:=h2.next;omega),((aI.mono (fun _ hx=>hx.elim)).trans aG).trans (EM g 2 _)⟩
def di(g:RG)(l:List UInt8)(st:RS):RS:=if ak l (aa g st)then{st with next:=st.next+1}else mJ g st
def lF(g:RG)(l:List UInt8)(st:RS):RS:=if aa g st= -1\/ak l (aa g st)=true then mJ g st else{st with next:=st.next+1}
theorem ald{g:RG}{st:RS}(h:aZ w g fo st)(s:ByteArray)(hs:∀b∈s.data.toList,b.toNat<128):
 Calls prog 129 #[.pointer (some ⟨g.b,0,none⟩),.string s] w fun e w'=>e=.returned (.tuple #[])/\aZ w' g fo (di g s.data.toList st)/\I g.aN w w':=by
 unfold di
 cases hy:ak s.data.toList (aa g st)
 ·go_in
  go_wp2_with fail
  refine(X_ h s hs hy).mono ?_;rintro e w1 ⟨rfl,h1,aI⟩;go_wp2_with fail;refine(NK h1).mono ?_;rintro e w2 ⟨rfl,h2,aG⟩;go_wp2_with fail;go_end0;exact⟨rfl,by simpa using h2,aI.trans aG⟩
 ·go_in
  go_wp2_with fail
  refine(Ya h s hs hy).mono ?_;rintro e w1 ⟨rfl,h1,aI⟩;go_wp2_with fail;go_end0;exact⟨rfl,by simpa using h1,aI⟩
theorem alb{g:RG}{st:RS}(h:aZ w g fo st)(s:ByteArray)(hs:∀b∈s.data.toList,b.toNat<128):
 Calls prog 118 #[.pointer (some ⟨g.b,0,none⟩),.string s] w fun e w'=>e=.returned (.int .i32 (aa g st))/\aZ w' g fo (lF g s.data.toList st)/\I g.aN w w':=by
 unfold lF;have hl:=h.len;by_cases dX:aa g st= -1
 ·rw[if_pos (Or.inl dX)];have hb:(aa g st== -1)=true:=by simp[dX]
  go_in
  go_wp2_with fail
  refine(NT h).mono ?_;rintro e w1 ⟨rfl,aI⟩;go_wp2_with fail;refine(NK (h.nil aI)).mono ?_;rintro e w2 ⟨rfl,h2,aG⟩;go_wp2_with fail;go_ret;exact⟨by rw[dX];rfl,h2,(aI.mono (fun _ hx=>hx.elim)).trans aG⟩
 ·have hb:(aa g st== -1)=false:=by simp[dX]
  have ar:st.next<g.rs.length:=by
   apply Bz
   intro hn;exact dX (by simp[aa,List.getD,Bd (by omega:g.rs.length<=st.next)])
  cases hy:ak s.data.toList (aa g st)
  ·rw[if_neg (by simp[dX])];go_in;go_wp2_with fail;refine(NT h).mono ?_;rintro e w1 ⟨rfl,aI⟩;have h1:=h.nil aI;go_wp2_with fail;refine(NU h1 s hs).mono ?_;rintro e w2 ⟨rfl,aG⟩;have h2:=h1.nil aG;have c2:w2.cell? ⟨g.b,2,none⟩=some (.int .i64 st.next):=h2.ae.cell 2;have f2:=h2.ae.frozen 2;rw[hy];go_wp2_with fail;go_ret;refine⟨rfl,?_,((aI.trans aG).mono (fun _ hx=>hx.elim)).trans (EM g 2 _)⟩;have:=h2.oZ (st.next+1) (by omega) (by have:=h.aC;omega);simpa using this
  ·rw[if_pos (Or.inr rfl)];go_in;go_wp2_with fail;refine(NT h).mono ?_;rintro e w1 ⟨rfl,aI⟩;have h1:=h.nil aI;go_wp2_with fail;refine(NU h1 s hs).mono ?_;rintro e w2 ⟨rfl,aG⟩;have h2:=h1.nil aG;rw[hy];go_wp2_with fail;refine(NK h2).mono ?_;rintro e w3 ⟨rfl,h3,aQ⟩;go_wp2_with fail;go_ret;exact⟨rfl,h3,((aI.trans aG).mono (fun _ hx=>hx.elim)).trans aQ⟩
def kF:List UInt8:=[48,49,50,51,52,53,54,55,56,57]
def zQ:List UInt8:=[44]
def qU:List UInt8:=[125]
def D_:List UInt8:=[123]
def M7:List UInt8:=[92,91,93,94,45]
def zR:List UInt8:=[46,94,36,124,63,42,43,40,41,91,93,123,125,45,47,92,110,116,114]
def oQ:List UInt8:=[46,94,36,124,63,42,43,40,41,91,93,123,125,45,47,92,110,116,114,100,68,119,87,115,83,98,66]
def dC:List UInt8:=[92]
def fc:List UInt8:=[100,119,115]
def qV:List UInt8:=[45]
def ij:List UInt8:=[94]
def fQ:List UInt8:=[93]
def zS:List UInt8:=[91]
def jc:List UInt8:=[97,98,99,100,101,102,103,104,105,106,107,108,109,110,111,112,113,114,115,116,117,118,119,120,121,122]
def DZ:List UInt8:=[62]
def pH:List UInt8:=[60]
def dG:List UInt8:=[63]
def EB:List UInt8:=[42]
def EA:List UInt8:=[43]
def lD:List UInt8:=[124]
def vD:List UInt8:=[41]
def vC:List UInt8:=[40]
def jQ:List UInt8:=[124,41]
def lI:List UInt8:=[105]
def zP:List UInt8:=[58]
def uz:List UInt8:=[46,94,36]
def Jz:List UInt8:=[92,46,94,36,124,63,42,43,40,41,91,123]
def ey(g:RG)(st:RS):RS×Int:=if ak kF (aa g st)then({st with next:=st.next+1},aa g st-48)else(mJ g st,0)
def aK(g:RG)(st:RS):RS×Int:=
 if 0<(ey g st).2/\ak kF (aa g (ey g st).1)=true then((ey g (ey g st).1).1,10*(ey g st).2+(ey g (ey g st).1).2)else ey g st
def n_(g:RG)(st:RS):RS×Int:=if ak qU (aa g st)then(st,-1)else aK g st
def cT(g:RG)(st:RS):RS×Int×Int:=
 if ak zQ (aa g (aK g st).1)then
  (di g qU (n_ g {(aK g st).1 with next:=(aK g st).1.next+1}).1,(aK g st).2,(n_ g {(aK g st).1 with next:=(aK g st).1.next+1}).2)
 else(di g qU (aK g st).1,(aK g st).2,(aK g st).2)
def lr(c:Int):Int:=if c=110 then 10 else if c=116 then 9 else if c=114 then 13 else c
def je(g:RG)(esc:Bool)(st:RS):RS×Int:=if esc then(di g zR st,lr (aa g st))else(lF g M7 st,aa g st)
def a_(g:RG)(st:RS):RS×Int:=je g (ak dC (aa g st)) (bT g dC st)
def jT(g:RG)(amH:Int)(x:RS×Int):RS:=
 if ak qV (aa g x.1)then
  if(a_ g {x.1 with next:=x.1.next+1}).2<x.2 then(a_ g {x.1 with next:=x.1.next+1}).1.bG 5 amH else(a_ g {x.1 with next:=x.1.next+1}).1
 else x.1
def cK(g:RG)(st:RS):RS:=
 if ak dC (aa g st)=true/\ak fc (aa g {st with next:=st.next+1})=true then{st with next:=st.next+2}
 else jT g (cx g st) (a_ g st)
def fu(g:RG):Nat->RS->RS
 |0,st=>st
 |m+1,st=>if aa g st= -1\/ak fQ (aa g st)=true then st else fu g m (cK g st)
def iT(g:RG)(st:RS):RS:=di g fQ (fu g (g.rs.length+1) (cK g (bT g ij st)))
def fB(g:RG)(first:Nat):Nat->RS->RS
 |0,st=>st
 |m+1,st=>if st.next<first+8/\ak jc (aa g st)=true then fB g first m {st with next:=st.next+1}else st
def AH(l:List Int):List UInt8:=(runesBytes l).data.toList
def jd(g:RG)(first:Nat)(st:RS):RS:=
 if st.names.any (fun p=>p.1==AH ((g.rs.take st.next).drop first))then st.bG 6 (g.ps.getD first 0)
 else{st with names:=(AH ((g.rs.take st.next).drop first),st.aC)::st.names}
def jS(g:RG)(st:RS):RS:=di g DZ (jd g st.next (fB g st.next (g.rs.length+9) (di g jc st)))
inductive PT where
 |node (aT:Int) (parts:List PT) (low high:Int):PT
mutual
def PT.size:PT->Int
 |.node k ps lo hi=>
  let s:=PT.iC ps
  min (if k=0\/k=1 then s+1 else if k=3 then s+(ps.length-1:Int)else if k=4 then(if hi= -1 then lo+1 else hi)*(s+1)else s) 1001
def PT.iC:List PT->Int
 | []=>0
 |p::ps=>PT.size p+PT.iC ps
end
def dU(g:RG)(a:PT)(st:RS):RS×PT:=
 if ak EB (aa g st)then(bT g dG {st with next:=st.next+1},.node 4 [a] 0 (-1))
 else if ak EA (aa g st)then(bT g dG {st with next:=st.next+1},.node 4 [a] 1 (-1))
 else if ak dG (aa g st)then(bT g dG {st with next:=st.next+1},.node 4 [a] 0 1)
 else if ak D_ (aa g st)then
  let x:=cT g {st with next:=st.next+1}
  (bT g dG (if x.2.1>20\/x.2.2>20\/(x.2.2≠ -1/\x.2.2<x.2.1)then x.1.bG 4 (cx g st)else x.1),.node 4 [a] x.2.1 x.2.2)
 else(st,a)
def dy(g:RG)(st:RS):RS:=
 if ak dG (aa g st)=false then{st with aC:=st.aC+1}
 else if ak pH (aa g {st with next:=st.next+1})then jS g {st with next:=st.next+2,aC:=st.aC+1}
 else di g zP (bT g lI {st with next:=st.next+1})
def jr(g:RG)(aw:RS->RS×PT)(st:RS):RS×PT:=(di g vD (aw (dy g st)).1,.node 1 [(aw (dy g st)).2] 0 0)
def gX:PT:=.node 0 [] 0 0
def bD(g:RG)(aw:RS->RS×PT)(st:RS):RS×PT:=
 if ak vC (aa g st)then jr g aw {st with next:=st.next+1}
 else if ak zS (aa g st)then(iT g {st with next:=st.next+1},gX)
 else if ak dC (aa g st)then(di g oQ {st with next:=st.next+1},gX)
 else if ak uz (aa g st)then({st with next:=st.next+1},gX)
 else(lF g Jz st,gX)
def eA(g:RG)(aw:RS->RS×PT):Nat->RS->List PT->RS×List PT
 |0,st,aA=>(st,aA)
 |m+1,st,aA=>
  if aa g st= -1\/ak jQ (aa g st)=true then(st,aA)
  else eA g aw m (dU g (bD g aw st).2 (bD g aw st).1).1 (aA++[(dU g (bD g aw st).2 (bD g aw st).1).2])
def cU(g:RG)(aw:RS->RS×PT)(st:RS):RS×PT:=((eA g aw (g.rs.length+1) st []).1,.node 2 (eA g aw (g.rs.length+1) st []).2 0 0)
def eE(g:RG)(aw:RS->RS×PT):Nat->RS->List PT->RS×List PT
 |0,st,aA=>(st,aA)
 |m+1,st,aA=>
  if ak lD (aa g st)then eE g aw m (cU g aw {st with next:=st.next+1}).1 (aA++[(cU g aw {st with next:=st.next+1}).2])else(st,aA)
def aE(g:RG):Nat->RS->RS×PT
 |0,st=>(st,gX)
 |k+1,st=>((eE g (aE g k) (g.rs.length+1) (cU g (aE g k) st).1 [(cU g (aE g k) st).2]).1,.node 3 (eE g (aE g k) (g.rs.length+1) (cU g (aE g k) st).1 [(cU g (aE g k) st).2]).2 0 0)
def dw(g:RG)(st:RS):RS×PT:=
 if aa g (aE g (g.rs.length+1) st).1= -1 then aE g (g.rs.length+1) st else(mJ g (aE g (g.rs.length+1) st).1,(aE g (g.rs.length+1) st).2)
theorem XU{g:RG}{st:RS}(h:g.rs.length<=st.next):aa g st= -1:=by simp[aa,List.getD,Bd h]
theorem gI{g:RG}{st:RS}(h:aa g st≠ -1):st.next<g.rs.length:=by
 apply Bz
 intro hn;exact h (XU (by omega))
theorem G0{r:Int}(h:ak kF r=true):48<=r/\r<=57:=by
 simp[ak,kF]at h
 omega
theorem Jr:ak l (-1)=false:=by
 unfold ak;rw[Ee];intro b _;simp
theorem yJ{g:RG}{st:RS}(h:aZ w g fo st)(s:ByteArray)(l:List UInt8)(hl:s.data.toList=l)(hs:∀b∈l,b.toNat<128):
 Calls prog 97 #[.pointer (some ⟨g.b,0,none⟩),.string s] w fun e w'=>e=.returned (.bool (ak l (aa g st)))/\aZ w' g fo st/\I g.aN w w':=by
 subst hl;exact(NU h s hs).mono fun e w' ⟨he,hk⟩=>⟨he,h.nil hk,hk.mono (fun _ hx=>hx.elim)⟩
theorem oY{g:RG}{st:RS}(h:aZ w g fo st):
 Calls prog 42 #[.pointer (some ⟨g.b,0,none⟩)] w fun e w'=>e=.returned (.int .i32 (aa g st))/\aZ w' g fo st/\I g.aN w w':=
 (NT h).mono fun e w' ⟨he,hk⟩=>⟨he,h.nil hk,hk.mono (fun _ hx=>hx.elim)⟩
theorem RN{g:RG}{st:RS}(h:aZ w g fo st):
 Calls prog 72 #[.pointer (some ⟨g.b,0,none⟩)] w fun e w'=>e=.returned (.int .i64 (cx g st))/\aZ w' g fo st/\I g.aN w w':=
 (aeA h).mono fun e w' ⟨he,hk⟩=>⟨he,h.nil hk,hk.mono (fun _ hx=>hx.elim)⟩
theorem iq{g:RG}{st:RS}(h:aZ w g fo st)(s:ByteArray)(l:List UInt8)(hl:s.data.toList=l)(hs:∀b∈l,b.toNat<128)(hy:ak l (aa g st)=true):
 Calls prog 71 #[.pointer (some ⟨g.b,0,none⟩),.string s] w fun e w'=>e=.returned (.bool true)/\aZ w' g fo {st with next:=st.next+1}/\I g.aN w w':=by
 subst hl;exact Ya h s hs hy
theorem gE{g:RG}{st:RS}(h:aZ w g fo st)(s:ByteArray)(l:List UInt8)(hl:s.data.toList=l)(hs:∀b∈l,b.toNat<128)(hy:ak l (aa g st)=false):
 Calls prog 71 #[.pointer (some ⟨g.b,0,none⟩),.string s] w fun e w'=>e=.returned (.bool false)/\aZ w' g fo st/\I g.aN w w':=by
 subst hl;exact X_ h s hs hy
theorem Sf{g:RG}{st:RS}(h:aZ w g fo st)(s:ByteArray)(l:List UInt8)(hl:s.data.toList=l)(hs:∀b∈l,b.toNat<128):
 Calls prog 71 #[.pointer (some ⟨g.b,0,none⟩),.string s] w fun e w'=>e=.returned (.bool (ak l (aa g st)))/\aZ w' g fo (bT g l st)/\I g.aN w w':=by
 subst hl;exact an6 h s hs
theorem uB{g:RG}{st:RS}(h:aZ w g fo st)(s:ByteArray)(l:List UInt8)(hl:s.data.toList=l)(hs:∀b∈l,b.toNat<128):
 Calls prog 129 #[.pointer (some ⟨g.b,0,none⟩),.string s] w fun e w'=>e=.returned (.tuple #[])/\aZ w' g fo (di g l st)/\I g.aN w w':=by
 subst hl;exact ald h s hs
theorem adh{g:RG}{st:RS}(h:aZ w g fo st)(s:ByteArray)(l:List UInt8)(hl:s.data.toList=l)(hs:∀b∈l,b.toNat<128):
 Calls prog 118 #[.pointer (some ⟨g.b,0,none⟩),.string s] w fun e w'=>e=.returned (.int .i32 (aa g st))/\aZ w' g fo (lF g l st)/\I g.aN w w':=by
 subst hl;exact alb h s hs
theorem RF(g:RG)(st:RS):0<=(ey g st).2/\(ey g st).2<=9:=by
 unfold ey
 cases h:ak kF (aa g st)
 ·simp
 ·have:=G0 h;simp;omega
theorem Pj{g:RG}{st:RS}(h:aZ w g fo st):
 Calls prog 144 #[.pointer (some ⟨g.b,0,none⟩)] w fun e w'=>e=.returned (.int .i64 (ey g st).2)/\aZ w' g fo (ey g st).1/\I g.aN w w':=by
 unfold ey
 cases hy:ak kF (aa g st)
 ·go_in
  go_wp2_with fail
  refine(oY h).mono ?_;rintro e w1 ⟨rfl,h1,aI⟩;go_wp2_with fail;refine(gE h1 _ kF (by rfl) (by decide) hy).mono ?_;rintro e w2 ⟨rfl,h2,aG⟩;go_wp2_with fail;refine(NK h2).mono ?_;rintro e w3 ⟨rfl,h3,aQ⟩;go_wp2_with fail;go_ret;exact⟨rfl,h3,(aI.trans aG).trans aQ⟩
 ·have hd:=G0 hy;go_in;go_wp2_with fail;refine(oY h).mono ?_;rintro e w1 ⟨rfl,h1,aI⟩;go_wp2_with fail;refine(iq h1 _ kF (by rfl) (by decide) hy).mono ?_;rintro e w2 ⟨rfl,h2,aG⟩;obtain⟨d,Ve,mY,hd2⟩:∃d:Int,aa g st=d+48/\0<=d/\d<=9:=⟨aa g st-48,by omega,by omega,by omega⟩
  have HD:Hid (aa g st=d+48):=Ve;rw[Ve];clear hd Ve hy;go_wp2_with fail;go_ret;exact⟨by rw[HD.out];simp,h2,aI.trans aG⟩
theorem Rt{g:RG}{st:RS}(h:aZ w g fo st):
 Calls prog 128 #[.pointer (some ⟨g.b,0,none⟩)] w fun e w'=>e=.returned (.int .i64 (aK g st).2)/\aZ w' g fo (aK g st).1/\I g.aN w w':=by
 have r1:=RF g st;have r2:=RF g (ey g st).1;unfold aK;by_cases hp:0<(ey g st).2
 ·cases hy:ak kF (aa g (ey g st).1)
  ·rw[if_neg (by simp)];go_in;go_wp2_with fail;refine(Pj h).mono ?_;rintro e w1 ⟨rfl,h1,aI⟩;go_wp2_with fail;refine(yJ h1 _ kF (by rfl) (by decide)).mono ?_;rintro e w2 ⟨rfl,h2,aG⟩;rw[hy];go_wp2_with fail;go_ret;exact⟨rfl,h2,aI.trans aG⟩
  ·rw[if_pos ⟨hp,rfl⟩];go_in;go_wp2_with fail;refine(Pj h).mono ?_;rintro e w1 ⟨rfl,h1,aI⟩;go_wp2_with fail;refine(yJ h1 _ kF (by rfl) (by decide)).mono ?_;rintro e w2 ⟨rfl,h2,aG⟩;rw[hy];go_wp2_with fail;refine(Pj h2).mono ?_;rintro e w3 ⟨rfl,h3,aQ⟩;go_wp2_with fail;go_ret;exact⟨rfl,h3,(aI.trans aG).trans aQ⟩
 ·rw[if_neg (by simp[hp])];go_in;go_wp2_with fail;refine(Pj h).mono ?_;rintro e w1 ⟨rfl,h1,aI⟩;go_wp2_with fail;go_ret;exact⟨rfl,h1,aI⟩
theorem ER(g:RG)(st:RS):0<=(aK g st).2/\(aK g st).2<=99:=by
 have r1:=RF g st;have r2:=RF g (ey g st).1;unfold aK;split
 ·simp;omega
 ·omega
theorem agQ{g:RG}{st:RS}(h:aZ w g fo st):
 Calls prog 112 #[.pointer (some ⟨g.b,0,none⟩)] w fun e w'=>e=.returned (.tuple #[.int .i64 (cT g st).2.1,.int .i64 (cT g st).2.2])/\aZ w' g fo (cT g st).1/\I g.aN w w':=by
 have r1:=ER g st;have r2:=ER g {(aK g st).1 with next:=(aK g st).1.next+1};unfold cT
 cases hc:ak zQ (aa g (aK g st).1)
 ·go_in
  go_wp2_with fail
  refine(Rt h).mono ?_;rintro e w1 ⟨rfl,h1,aI⟩;go_wp2_with fail;refine(gE h1 _ zQ (by rfl) (by decide) hc).mono ?_;rintro e w2 ⟨rfl,h2,aG⟩;go_wp2_with fail;refine(uB h2 _ qU (by rfl) (by decide)).mono ?_;rintro e w3 ⟨rfl,h3,aQ⟩;go_wp2_with fail;go_ret2;exact⟨rfl,h3,(aI.trans aG).trans aQ⟩
 ·unfold n_
  cases hb:ak qU (aa g {(aK g st).1 with next:=(aK g st).1.next+1})
  ·go_in
   go_wp2_with fail
   refine(Rt h).mono ?_;rintro e w1 ⟨rfl,h1,aI⟩;go_wp2_with fail;refine(iq h1 _ zQ (by rfl) (by decide) hc).mono ?_;rintro e w2 ⟨rfl,h2,aG⟩;go_wp2_with fail;refine(yJ h2 _ qU (by rfl) (by decide)).mono ?_;rintro e w3 ⟨rfl,h3,aQ⟩;rw[hb];go_wp2_with fail;refine(Rt h3).mono ?_;rintro e w4 ⟨rfl,h4,cQ⟩;go_wp2_with fail;refine(uB h4 _ qU (by rfl) (by decide)).mono ?_;rintro e w5 ⟨rfl,h5,bI⟩;go_wp2_with fail;go_ret2;exact⟨rfl,h5,(((aI.trans aG).trans aQ).trans cQ).trans bI⟩
  ·go_in
   go_wp2_with fail
   refine(Rt h).mono ?_;rintro e w1 ⟨rfl,h1,aI⟩;go_wp2_with fail;refine(iq h1 _ zQ (by rfl) (by decide) hc).mono ?_;rintro e w2 ⟨rfl,h2,aG⟩;go_wp2_with fail;refine(yJ h2 _ qU (by rfl) (by decide)).mono ?_;rintro e w3 ⟨rfl,h3,aQ⟩;rw[hb];go_wp2_with fail;refine(uB h3 _ qU (by rfl) (by decide)).mono ?_;rintro e w5 ⟨rfl,h5,bI⟩;go_wp2_with fail;go_ret2;exact⟨rfl,h5,((aI.trans aG).trans aQ).trans bI⟩
theorem aa3{g:RG}{st:RS}(h:aZ w g fo st):
 Calls prog 135 #[.pointer (some ⟨g.b,0,none⟩)] w fun e w'=>e=.returned (.int .i32 (lr (aa g st)))/\aZ w' g fo (di g zR st)/\I g.aN w w':=by
 go_in
 go_wp2_with fail
 refine(oY h).mono ?_;rintro e w1 ⟨rfl,h1,aI⟩;go_wp2_with fail;refine(uB h1 _ zR (by rfl) (by decide)).mono ?_;rintro e w2 ⟨rfl,h2,aG⟩;go_wp2_with fail;all_goals go_ret
 all_goals refine⟨?_,h2,aI.trans aG⟩
 all_goals(simp only[Ai,Dm,ne_eq]at*;simp[lr, *])
theorem Xc{g:RG}{st:RS}(esc:Bool)(h:aZ w g fo st):
 Calls prog 145 #[.pointer (some ⟨g.b,0,none⟩),.bool esc] w fun e w'=>e=.returned (.int .i32 (je g esc st).2)/\aZ w' g fo (je g esc st).1/\I g.aN w w':=by
 unfold je
 cases esc
 ·go_in
  go_wp2_with fail
  refine(adh h _ M7 (by rfl) (by decide)).mono ?_;rintro e w2 ⟨rfl,h2,aG⟩;go_wp2_with fail;go_ret;exact⟨rfl,h2,aG⟩
 ·go_in
  go_wp2_with fail
  refine(aa3 h).mono ?_;rintro e w2 ⟨rfl,h2,aG⟩;go_wp2_with fail;go_ret;exact⟨rfl,h2,aG⟩
theorem adD{g:RG}{st:RS}(h:aZ w g fo (bT g dC st)):
 Calls prog 145 #[.pointer (some ⟨g.b,0,none⟩),.bool (ak dC (aa g st))] w fun e w'=>e=.returned (.int .i32 (a_ g st).2)/\aZ w' g fo (a_ g st).1/\I g.aN w w':=Xc _ h
theorem XD(g:RG)(st:RS):(mJ g st).next=g.rs.length:=rfl
theorem Rp(st:RS)(e p:Int):(st.bG e p).next=st.next:=rfl
theorem xo(g:RG)(l:List UInt8)(st:RS)(h:st.next<=g.rs.length):st.next<=(di g l st).next/\(di g l st).next<=g.rs.length/\(st.next<g.rs.length->st.next<(di g l st).next):=by
 unfold di
 cases hc:ak l (aa g st)
 ·simp[XD];exact h
 ·have:=fj hc;simp;omega
theorem adi(g:RG)(l:List UInt8)(st:RS)(h:st.next<=g.rs.length):st.next<=(lF g l st).next/\(lF g l st).next<=g.rs.length/\(st.next<g.rs.length->st.next<(lF g l st).next):=by
 unfold lF;by_cases hc:aa g st= -1\/ak l (aa g st)=true
 ·rw[if_pos hc];simp[XD];exact h
 ·rw[if_neg hc];have:=gI (fun e=>hc (Or.inl e));simp;omega
theorem J0(g:RG)(l:List UInt8)(st:RS)(h:st.next<=g.rs.length):st.next<=(bT g l st).next/\(bT g l st).next<=g.rs.length:=by
 unfold bT
 cases hc:ak l (aa g st)
 ·simp;exact h
 ·have:=fj hc;simp;omega
theorem amh(g:RG)(esc:Bool)(st:RS)(h:st.next<=g.rs.length):st.next<=(je g esc st).1.next/\(je g esc st).1.next<=g.rs.length/\(st.next<g.rs.length->st.next<(je g esc st).1.next):=by
 unfold je
 cases esc
 ·exact adi g _ st h
 ·exact xo g _ st h
theorem NA(g:RG)(st:RS)(h:st.next<=g.rs.length):st.next<=(a_ g st).1.next/\(a_ g st).1.next<=g.rs.length/\(st.next<g.rs.length->st.next<(a_ g st).1.next):=by
 have h1:=J0 g dC st h;have h2:=amh g (ak dC (aa g st)) (bT g dC st) h1.2;refine⟨by show st.next<=(je g _ (bT g dC st)).1.next;omega,h2.2.1,fun ar=>?_⟩;show st.next<(je g _ (bT g dC st)).1.next
 cases hc:ak dC (aa g st)
 ·have e:bT g dC st=st:=by simp[bT,hc]
  rw[hc,e]at h2;rw[e];exact h2.2.2 ar
 ·have e:(bT g dC st).next=st.next+1:=by simp[bT,hc]
  rw[hc]at h2;omega
theorem amk(g:RG)(p:Int)(x:RS×Int)(h:x.1.next<=g.rs.length):x.1.next<=(jT g p x).next/\(jT g p x).next<=g.rs.length:=by
 unfold jT
 cases hc:ak qV (aa g x.1)
 ·simp;exact h
 ·have hl:=fj hc;have h1:=NA g {x.1 with next:=x.1.next+1} (by simp;omega);simp only at h1;simp only[if_true];split
  ·simp only[Rp];omega
  ·omega
theorem JJ(g:RG)(st:RS)(h:st.next<=g.rs.length):st.next<=(cK g st).next/\(cK g st).next<=g.rs.length/\(st.next<g.rs.length->st.next<(cK g st).next):=by
 unfold cK;by_cases hc:ak dC (aa g st)=true/\ak fc (aa g {st with next:=st.next+1})=true
 ·rw[if_pos hc];have:=fj hc.2;simp at*;omega
 ·rw[if_neg hc];have h1:=NA g st h;have h2:=amk g (cx g st) (a_ g st) h1.2.1;omega
theorem Xk(g:RG)(m:Nat)(st:RS)(h:aa g st= -1\/ak fQ (aa g st)=true):fu g m st=st:=by
 cases m with
 |zero=>rfl
 |succ m=>unfold fu;rw[if_pos h]
theorem aea(g:RG):∀(m:Nat) (st:RS),st.next<=g.rs.length->st.next<=(fu g m st).next/\(fu g m st).next<=g.rs.length
 |0,st,h=>⟨Aa _,h⟩
 |m+1,st,h=>by
  unfold fu;split
  ·exact⟨Aa _,h⟩
  ·have h1:=JJ g st h;have h2:=aea g m (cK g st) h1.2.1;omega
theorem alW(g:RG)(st:RS)(h:st.next<=g.rs.length):st.next<=(iT g st).next/\(iT g st).next<=g.rs.length:=by
 unfold iT;have h1:=J0 g ij st h;have h2:=JJ g _ h1.2;have h3:=aea g (g.rs.length+1) _ h2.2.1;have h4:=xo g fQ _ h3.2;omega
theorem al5(g:RG)(first m:Nat)(st:RS)(h:¬(st.next<first+8/\ak jc (aa g st)=true)):fB g first m st=st:=by
 cases m with
 |zero=>rfl
 |succ m=>unfold fB;rw[if_neg h]
theorem Xm(g:RG)(first:Nat):∀(m:Nat) (st:RS),st.next<=g.rs.length->st.next<=(fB g first m st).next/\(fB g first m st).next<=g.rs.length
 |0,st,h=>⟨Aa _,h⟩
 |m+1,st,h=>by
  unfold fB;split
  ·rename_i hc
   have hl:=fj hc.2;have h2:=(Xm g first m {st with next:=st.next+1} (by simp;omega));simp only at h2;omega
  ·exact⟨Aa _,h⟩
theorem Nz(g:RG)(first:Nat)(st:RS):(jd g first st).next=st.next:=by unfold jd;split<;>rfl
theorem al9(g:RG)(st:RS)(h:st.next<=g.rs.length):st.next<=(jS g st).next/\(jS g st).next<=g.rs.length:=by
 unfold jS;have h1:=xo g jc st h;have h2:=Xm g st.next (g.rs.length+9) _ h1.2.1
 have h3:=Nz g st.next (fB g st.next (g.rs.length+9) (di g jc st))
 have h4:=xo g DZ (jd g st.next (fB g st.next (g.rs.length+9) (di g jc st))) (by omega);omega
theorem ale(g:RG)(l:List UInt8)(st:RS):(di g l st).aC=st.aC/\(di g l st).names=st.names:=by
 unfold di;split<;>exact⟨rfl,rfl⟩
theorem adg(g:RG)(a b:Nat)(hb:b<=g.rs.length)(hl:g.rs.length<=300):(runesBytes ((g.rs.take b).drop a)).size<=maxLen:=by
 have h1:=runesBytes_size_le ((g.rs.take b).drop a);have h2:((g.rs.take b).drop a).length<=300:=by simp;omega
 unfold maxLen;omega
theorem adf(g:RG)(a b:Nat)(wN:g.rs.length<=g.cr)(Gh:a<=b)(hb:b<=g.rs.length)(hc:∀i,i<g.rs.length->w.cell? ⟨g.br,i,none⟩=some (.int .i32 (g.rs.getD i 0))):
 (convert 79 9 (.slice (if g.cr=a then some ⟨g.br,0,none⟩else some ⟨g.br,a,none⟩) (b-a) (g.cr-a))).run prog w=.ok (.string (runesBytes ((g.rs.take b).drop a))) w:=by
 by_cases h:g.cr=a
 ·have e:(g.rs.take b).drop a=[]:=by simp;omega
  rw[if_pos h,e];have:=run_convert_runes (P:=prog) w 79 9 21 ⟨g.br,0,none⟩ (b-a) (g.cr-a) [] (by simp;omega) underlying79 underlying21 underlying9 (fun j hj=>by simp at hj);simpa using this
 ·rw[if_neg h]
  have:=run_convert_runes (P:=prog) w 79 9 21 ⟨g.br,a,none⟩ (b-a) (g.cr-a) ((g.rs.take b).drop a) (by simp;omega) underlying79 underlying21 underlying9 (fun j hj=>by
   have DC:a+j<b:=by simp at hj;omega
   have IT:(Addr.add ⟨g.br,a,none⟩ j)=⟨g.br,a+j,none⟩:=by
    unfold Addr.add;split
    ·rename_i hz;simp
    ·rfl
   rw[IT,hc (a+j) (by omega)];congr 2;simp[List.getD,Du,Al DC])
  rw[this,Cp (by simp;omega)]
theorem ak9{g:RG}{st:RS}(h:aZ w g fo st)(h0:0<g.rs.length)(Mr:st.names.length<st.aC):
 Calls prog 131 #[.pointer (some ⟨g.b,0,none⟩)] w fun e w'=>e=.returned (.tuple #[])/\aZ w' g fo (jS g st)/\I g.aN w w':=by
 have mA:=h.next
 have hl:=h.len;have c2:w.cell? ⟨g.b,2,none⟩=some (.int .i64 st.next):=h.ae.cell 2;go_in;go_wp2_with fail;refine(uB h _ jc (by rfl) (by decide)).mono ?_;rintro e w1 ⟨rfl,h1,aI⟩;clear c2;go_wp2_with fail;have kt:=xo g jc st mA;have DP:=ale g jc st;generalize cS:di g jc st=bP at h1 kt DP;have iU:Hid (di g jc st=bP):=cS;clear cS;go_loopg [22] (g.rs.length-bP.next) (fun k _ wr=>∃ab m,aZ wr g fo ab/\Hid (fB g st.next m ab=fB g st.next (g.rs.length+9) bP)/\k=g.rs.length-ab.next/\k<m/\st.next<=ab.next/\Hid (ab.aC=bP.aC/\ab.names=bP.names)/\I g.aN w wr)
 case atStart=>exact⟨bP,g.rs.length+9,h1,rfl,rfl,by omega,by omega,⟨rfl,rfl⟩,aI⟩
 case round=>
  obtain⟨ab,m,hr,HP,rfl,hm,iR,HG,hk⟩:=hrel;have hle:=hr.next
  clear h1 aI;have c2:wr.cell? ⟨g.b,2,none⟩=some (.int .i64 ab.next):=hr.ae.cell 2;by_cases sX:ab.next<st.next+8/\ak jc (aa g ab)=true
  ·obtain⟨sY,oK⟩:=sX;have ar:=fj oK;go_wp2_with fail;refine(yJ hr _ jc (by rfl) (by decide)).mono ?_;rintro e w3 ⟨rfl,h3,aQ⟩;rw[oK];have c3:w3.cell? ⟨g.b,2,none⟩=some (.int .i64 ab.next):=h3.ae.cell 2;have f3:=h3.ae.frozen 2;go_wp2_with fail;go_roundg (g.rs.length-(ab.next+1))
   case measure=>omega
   case rel=>
    have h4:=h3.oZ (ab.next+1) (by omega) (by have:=h3.aC;omega);refine⟨{ab with next:=ab.next+1},m-1,by simpa using h4,?_,rfl,by omega,by simp;omega,HG,(hk.trans aQ).trans (EM g 2 _)⟩;rw[<-HP.out];obtain⟨m',rfl⟩:∃m',m=m'+1:=⟨m-1,by omega⟩
    show fB g st.next m' _=fB g st.next (m'+1) ab
    rw[show fB g st.next (m'+1) ab=if ab.next<st.next+8/\ak jc (aa g ab)=true then fB g st.next m' {ab with next:=ab.next+1}else ab from rfl,if_pos ⟨sY,oK⟩]
  ·have hP:=HP.out;rw[al5 g st.next m ab sX]at hP;have qz:Hid (ab=fB g st.next (g.rs.length+9) bP):=hP;clear hP HP c2;have eu:=hr.isSome h0;by_cases h8:ab.next<st.next+8
   ·have hs:ak jc (aa g ab)=false:=by
     cases hs:ak jc (aa g ab)
     ·rfl
     ·exact absurd ⟨h8,hs⟩ sX
    clear sX;have c2:wr.cell? ⟨g.b,2,none⟩=some (.int .i64 ab.next):=hr.ae.cell 2;go_wp2_with fail;refine(yJ hr _ jc (by rfl) (by decide)).mono ?_;rintro e w3 ⟨rfl,h3,aQ⟩;rw[hs];clear c2;have dL:=hk.trans aQ;have PY:=h3.eD;have wN:=h3.oA;have c0:w3.cell? ⟨g.b,0,none⟩=some (.slice (some ⟨g.br,0,none⟩) g.rs.length g.cr):=by rw[<-eu];exact h3.ae.cell 0
    have c1:w3.cell? ⟨g.b,1,none⟩=some (.slice (some ⟨g.bp,0,none⟩) (g.rs.length+1) g.cp):=h3.ae.cell 1;have c2:w3.cell? ⟨g.b,2,none⟩=some (.int .i64 ab.next):=h3.ae.cell 2;have c4:w3.cell? ⟨g.b,5,none⟩=some (.int .i64 ab.aC):=h3.ae.cell 5;have c5:w3.cell? ⟨g.b,6,none⟩=some (.map (some g.bn)):=h3.ae.cell 6;have CY:=(adf (w:=w3.drew) g st.next ab.next wN iR hle (fun i hi=>h3.gC i hi));have ajo:ab.next<=g.cr:=(by omega);have bm:=adg g st.next ab.next hle hl
    generalize DE:runesBytes ((g.rs.take ab.next).drop st.next)=kb at CY bm
    have Kq:Hid (runesBytes ((g.rs.take ab.next).drop st.next)=kb):=DE;clear DE;obtain⟨D,hD,hN⟩:=h3.nm;have oF:keyOf prog 9 (.string kb)=some (.string kb.data.toList):=Go.WideMaps.keyOf_string_mk underlying9 bm;have UP:Maps.size D<maxLen:=by rw[hN.size];have:=h3.names;have:=h3.aC;unfold maxLen;omega
    cases wO:ab.names.any (fun p=>p.1==kb.data.toList)
    ·have hh:has D (.string kb.data.toList)=false:=by rw[hN.has];exact wO
     have km:ab.aC<=300:=by have:=h3.aC;omega
     obtain⟨w4,zC,Mv,Md⟩:=(hD.drew.drew).update (t:=44) (e:=3) ED underlying44 UP oF (plainElem_int (H:=Unit) (a:=(ab.aC:Int)) underlying3 (Cy (by omega)));go_wp2_with fail;go_region;all_goals go_wp2_with (at_lookup;refine Bg _ rfl _ _ 44 rfl 9 3 .i64 ED underlying44 underlying3 (yO _) g.bn _ D rfl hD.drew _ _ rfl oF ?_;intro c qJ zH)
     all_goals go_region
     all_goals go_wp2_with fail
     all_goals
      have sO:=hN.put (hD.tidy ED) kb.data.toList ab.aC wO;have cQ:I (fun i=>i=g.bn) w3 w4:=((I.refl _ _).drew.drew).dn Md (fun k hk=>Or.inl (by cases hk;rfl));have e4:Maps.size (D.put (.string kb.data.toList) (.lit (.int .i64 ab.aC)))=Maps.size D+1:=by rw[sO.size,hN.size];simp
      have h4:=h3.named _ (e4▸Mv) sO cQ (by have:=HG.out;simp only[A1];rw[this.2,this.1,DP.2,DP.1];omega);have bI:I g.aN w w4:=dL.trans (cQ.mono (fun i hi=>by simp[RG.aN,hi]))
      have EN:Hid (jd g st.next ab={ab with names:=(kb.data.toList,ab.aC)::ab.names}):=by
       show jd g st.next ab=_
       unfold jd AH;rw[Kq.out,wO];rfl
      clear zC Mv Md hD CY;refine(uB h4 _ DZ (by rfl) (by decide)).mono ?_;rintro e w5 ⟨rfl,h5,bU⟩;go_wp2_with fail;go_end0;refine⟨rfl,?_,bI.trans bU⟩;unfold jS;rw[iU.out,<-qz.out,EN.out];exact h5
    ·have hh:has D (.string kb.data.toList)=true:=by rw[hN.has];exact wO
     have mU:=(h3.places st.next (by omega));have pA:st.next<g.rs.length+1:=(by omega);have qM:=h3.oc st.next
     go_wp2_with fail
     go_region
     all_goals go_wp2_with (at_lookup;refine Bg _ rfl _ _ 44 rfl 9 3 .i64 ED underlying44 underlying3 (yO _) g.bn _ D rfl hD.drew _ _ rfl oF ?_;intro c qJ zH)
     all_goals
      have h4:=h3.nil (I.refl aq w3).drew
      have EN:Hid (jd g st.next ab=ab.bG 6 (g.ps.getD st.next 0)):=by
       show jd g st.next ab=_
       unfold jd AH;rw[Kq.out,wO];rfl
      clear hD CY;refine(He h4 6 _ (by omega) qM).mono ?_;rintro e w5 ⟨rfl,h5,bU⟩;go_wp2_with fail;refine(uB h5 _ DZ (by rfl) (by decide)).mono ?_;rintro e w6 ⟨rfl,h6,fA⟩;go_wp2_with fail;go_end0;refine⟨rfl,?_,(dL.drew.trans bU).trans fA⟩;unfold jS;rw[iU.out,<-qz.out,EN.out];exact h6
   ·have h3:=hr;obtain⟨w3,Jp⟩:∃w3,w3=wr:=⟨_,rfl⟩
    have dL:=hk;rw[<-Jp]at h3 dL⊢;have ajU:=Jp;clear ajU sX;subst Jp;have PY:=h3.eD;have wN:=h3.oA;have c0:w3.cell? ⟨g.b,0,none⟩=some (.slice (some ⟨g.br,0,none⟩) g.rs.length g.cr):=by rw[<-eu];exact h3.ae.cell 0
    have c1:w3.cell? ⟨g.b,1,none⟩=some (.slice (some ⟨g.bp,0,none⟩) (g.rs.length+1) g.cp):=h3.ae.cell 1;have c2:w3.cell? ⟨g.b,2,none⟩=some (.int .i64 ab.next):=h3.ae.cell 2;have c4:w3.cell? ⟨g.b,5,none⟩=some (.int .i64 ab.aC):=h3.ae.cell 5;have c5:w3.cell? ⟨g.b,6,none⟩=some (.map (some g.bn)):=h3.ae.cell 6;have CY:=(adf (w:=w3.drew) g st.next ab.next wN iR hle (fun i hi=>h3.gC i hi));have ajo:ab.next<=g.cr:=(by omega);have bm:=adg g st.next ab.next hle hl
    generalize DE:runesBytes ((g.rs.take ab.next).drop st.next)=kb at CY bm
    have Kq:Hid (runesBytes ((g.rs.take ab.next).drop st.next)=kb):=DE;clear DE;obtain⟨D,hD,hN⟩:=h3.nm;have oF:keyOf prog 9 (.string kb)=some (.string kb.data.toList):=Go.WideMaps.keyOf_string_mk underlying9 bm;have UP:Maps.size D<maxLen:=by rw[hN.size];have:=h3.names;have:=h3.aC;unfold maxLen;omega
    cases wO:ab.names.any (fun p=>p.1==kb.data.toList)
    ·have hh:has D (.string kb.data.toList)=false:=by rw[hN.has];exact wO
     have km:ab.aC<=300:=by have:=h3.aC;omega
     obtain⟨w4,zC,Mv,Md⟩:=(hD.drew.drew).update (t:=44) (e:=3) ED underlying44 UP oF (plainElem_int (H:=Unit) (a:=(ab.aC:Int)) underlying3 (Cy (by omega)));go_wp2_with fail;go_region;all_goals go_wp2_with (at_lookup;refine Bg _ rfl _ _ 44 rfl 9 3 .i64 ED underlying44 underlying3 (yO _) g.bn _ D rfl hD.drew _ _ rfl oF ?_;intro c qJ zH)
     all_goals go_region
     all_goals go_wp2_with fail
     all_goals
      have sO:=hN.put (hD.tidy ED) kb.data.toList ab.aC wO;have cQ:I (fun i=>i=g.bn) w3 w4:=((I.refl _ _).drew.drew).dn Md (fun k hk=>Or.inl (by cases hk;rfl));have e4:Maps.size (D.put (.string kb.data.toList) (.lit (.int .i64 ab.aC)))=Maps.size D+1:=by rw[sO.size,hN.size];simp
      have h4:=h3.named _ (e4▸Mv) sO cQ (by have:=HG.out;simp only[A1];rw[this.2,this.1,DP.2,DP.1];omega);have bI:I g.aN w w4:=dL.trans (cQ.mono (fun i hi=>by simp[RG.aN,hi]))
      have EN:Hid (jd g st.next ab={ab with names:=(kb.data.toList,ab.aC)::ab.names}):=by
       show jd g st.next ab=_
       unfold jd AH;rw[Kq.out,wO];rfl
      clear zC Mv Md hD CY;refine(uB h4 _ DZ (by rfl) (by decide)).mono ?_;rintro e w5 ⟨rfl,h5,bU⟩;go_wp2_with fail;go_end0;refine⟨rfl,?_,bI.trans bU⟩;unfold jS;rw[iU.out,<-qz.out,EN.out];exact h5
    ·have hh:has D (.string kb.data.toList)=true:=by rw[hN.has];exact wO
     have mU:=(h3.places st.next (by omega));have pA:st.next<g.rs.length+1:=(by omega);have qM:=h3.oc st.next
     go_wp2_with fail
     go_region
     all_goals go_wp2_with (at_lookup;refine Bg _ rfl _ _ 44 rfl 9 3 .i64 ED underlying44 underlying3 (yO _) g.bn _ D rfl hD.drew _ _ rfl oF ?_;intro c qJ zH)
     all_goals
      have h4:=h3.nil (I.refl aq w3).drew
      have EN:Hid (jd g st.next ab=ab.bG 6 (g.ps.getD st.next 0)):=by
       show jd g st.next ab=_
       unfold jd AH;rw[Kq.out,wO];rfl
      clear hD CY;refine(He h4 6 _ (by omega) qM).mono ?_;rintro e w5 ⟨rfl,h5,bU⟩;go_wp2_with fail;refine(uB h5 _ DZ (by rfl) (by decide)).mono ?_;rintro e w6 ⟨rfl,h6,fA⟩;go_wp2_with fail;go_end0;refine⟨rfl,?_,(dL.drew.trans bU).trans fA⟩;unfold jS;rw[iU.out,<-qz.out,EN.out];exact h6
end Go.Proofs.YtmbpfhlnifdhgaaGreatDoor
