/- For every pattern, every text, every row of sizes and every two numbers, together of at most 1,048,576 values and letters: the law Cuts (promises P5 to P7) returns true: Find tells what a Stream tells that gets the text in parts, however it is cut, with whichever engine and cache, and what a Stream tells that gets it at once; a string that is no pattern is told so by Find, Open and Check, with the same error. The row lists three tables of Go's library, tied to the program's text by the card: the tie is given. The frame of this text is the guide's worked one. -/
import Derived.Test.YtpdnofhackjfdaaGreatDoorCards
import Derived.Test.YtpdnofhackjfdaaGreatDoorTie
import Derived.Test.YtpdnofhackjfdaaGreatDoorP46
set_option linter.all false
set_option maxRecDepth 100000
namespace Go.Proofs.YtpdnofhackjfdaaGreatDoor.cutsk
open Go.Proofs.Tryz
open Go.ChangeShapes Go.WideShapes Go.ChangeAt Go.RowKit
open Go.ChangeMaps (open_string shut_string)
open Go.Joins
theorem ag7(H:Type)(oU:TypeId×Value->H)(W:World)(base:Nat)(args:Array Value)(ds gs:List (DataW H))(before:List MemPlace)
 (ab6:∀(j:Nat) t v,Tryz.f3.params[j]? =some t->args[j]? =some v->Value.okWide prog W .any base t v)
 (hW:DataW.Whole oU prog Tryz.f3.params.toList Rows.cutsSpec.vars false W args.toList ds gs before)(hk:Rows.uptoSmall H (ds++gs)=true)(hL:laidMetH prog Rows.cutsUptoRow.laid W):
 Calls prog 3 args W fun e W'=>∃v,e=.returned v/\Rows.cutsSpec.post oU prog Tryz.f3 false true false false W args v W':=by
 have rN:∀(j:Nat) t v,Tryz.f3.params[j]? =some t->args[j]? =some v->Value.okWide prog W .any base t v:=ab6
 have ny:=hW;obtain⟨p,q,hA0,hV,rfl,hfz,hnd⟩:=hW;have hA:DataW.TrodAll oU prog W 0 (fun _=>true) true Tryz.f3.params.toList args.toList ds p:=hA0;rw[params3]at hA rN;obtain⟨v0,vs0,d0,ds0,p0,q0,Ut,rfl,rfl,h0,r0⟩:=trodAll_cons hA;obtain⟨v1,vs1,d1,ds1,p1,q1,api,rfl,rfl,h1,r1⟩:=trodAll_cons r0;obtain⟨v2,vs2,d2,ds2,p2,q2,apj,rfl,rfl,h2,r2⟩:=trodAll_cons r1;obtain⟨v3,vs3,d3,ds3,p3,q3,apk,rfl,rfl,h3,r3⟩:=trodAll_cons r2;obtain⟨v4,vs4,d4,ds4,p4,q4,apl,rfl,rfl,h4,r4⟩:=trodAll_cons r3;obtain⟨rfl,rfl,rfl⟩:=trodAll_nil r4;obtain rfl:args=#[v0,v1,v2,v3,v4]:=by cases args;simp_all
 obtain⟨rfl,rfl⟩:=trodVars_none hV;obtain⟨a0,rfl,rfl,rfl,w0⟩:=open_string underlying9 (rN 0 9 v0 rfl rfl) h0;obtain⟨a1,rfl,rfl,rfl,w1⟩:=open_string underlying9 (rN 1 9 v1 rfl rfl) h1;obtain⟨zs,hR,hb,IL⟩:=alx (rN 2 22 v2 rfl rfl) h2;obtain⟨x,rfl,rfl,rfl,wx⟩:=open_int underlying3 (rN 3 3 v3 rfl rfl) h3;obtain⟨y,rfl,rfl,rfl,wy⟩:=open_int underlying3 (rN 4 3 v4 rfl rfl) h4;have hx: -9223372036854775808<=x/\x<=9223372036854775807:=by simpa[Lit.wf,IntKind.min,IntKind.max,IntKind.signed,IntKind.bits]using wx
 have hy: -9223372036854775808<=y/\y<=9223372036854775807:=by simpa[Lit.wf,IntKind.min,IntKind.max,IntKind.signed,IntKind.bits]using wy
 clear hA0 ab6
 have hz:a1.size<=10000000/\zs.length<=10000000:=by
  have h:Rows.uptoBulkAll [DataW.lit (H:=H) (.string a0.data.toList),DataW.lit (H:=H) (.string a1.data.toList),d2,DataW.lit (H:=H) (.int .i64 x),DataW.lit (H:=H) (.int .i64 y)]<=1048576:=by simpa[Rows.uptoSmall]using hk
  simp only[Rows.uptoBulkAll,Rows.uptoBulk]at h;have e:a1.data.toList.length=a1.size:=by rw[Array.length_toList];rfl
  omega
 refine(ahe a0 a1 W w0 hz.1 (an6 hL) hR hz.2 x y hx hy).mono fun e W' ⟨he,hg⟩=>?_
 subst he
 exact⟨_,rfl,amH (pa:=[]++([]++(p2++([]++([]++[]))))) (pv:=[]) ny (fun _ _ _=>(Ee (shut_bool underlying4 _) trodAll_mk0)) (fun sp Vq=>(Ee (shut_string underlying9 w0) (Ee (shut_string underlying9 w1) (Ee (IL W' hg sp (fun q hq=>Vq q (by simp[hq]))) (Ee (shut_int underlying3 wx) (Ee (shut_int underlying3 wy) trodAll_mk0)))))) (fun _ _=>rfl) rfl
  hg (ok_one (by kernel_rfl) rfl (okWide_bool_mk underlying4 _))⟩
theorem akt(os:Os)(Nx:os.Started)(H:Type)(oU:TypeId×Value->H)(F:Stop.Interp):
 ReturnsInHanded {} Tryz.checked os 3 .any ((Rows.OpenSpec.upto Rows.cutsSpec).preRow oU prog Tryz.f3 Rows.cutsUptoRow.domain false Rows.cutsUptoRow.laid) (((Rows.OpenSpec.upto Rows.cutsSpec).at F).post oU prog Tryz.f3 false true false false):=by
 refine returnsInHanded_of_row (C:=Tryz.checked) (s:=Rows.OpenSpec.upto Rows.cutsSpec) au Nx (by kernel_rfl) func3
  ⟨World.laidAll prog os Rows.cutsUptoRow.laid,fun _ _=>0,⟨#[],#[.string ByteArray.empty,.string ByteArray.empty,.slice none 0 0,.int .i64 0,.int .i64 0],[]⟩,World.laidAll_os _ _ _,World.shaped_of_ZipB (by kernel_rfl) (by kernel_rfl),rfl,
    (Input.okWide_of_okWideB (by kernel_rfl)).2,
    OpenSpec.preRow_of_cond 8 (x:=([.lit (.string []),.lit (.string []),.nil,.lit (.int .i64 0),.lit (.int .i64 0)],[],[])) (by kernel_rfl) (by kernel_rfl) (fun k hk=>by cases hk;kernel_rfl) (by kernel_rfl)
     (by rw[MakeChecks.laidMetH_plain _ _ _ (by kernel_rfl)];exact laidMet_laidAll _ (by kernel_rfl) (by kernel_rfl)),by
    simp only[Assume.holds];exact⟨by simp,by simp,fun _=>Modest.zero,by simp,by simp⟩⟩ ?_
 intro W base args ds gs before rN hW _ aiC _ hL _ _;exact ag7 H oU W base args ds gs before rN hW (aiC _ rfl) hL
theorem Wo:Rows.cutsUptoRow.holds Tryz.pinned (Rows.OpenSpec.upto Rows.cutsSpec):=
 OpenClaim.holds_of_cond 3 Tryz.f3 rfl rfl rfl rfl rfl rfl rfl ⟨rfl,rfl,rfl,rfl,rfl⟩ rfl rfl rfl rfl rfl (by kernel_rfl) func3 (by kernel_rfl)
  (of_decide_eq_true (by kernel_rfl)) (by unfold Func.isWrapper;first|(rw[if_pos (by decide+kernel)];kernel_rfl)|(rw[if_neg (by decide+kernel)];exact⟨rfl,rfl⟩))
  (fun os Nx H oU _ F=>by rw[OpenClaim.pre_eq_preRow];exact akt os Nx H oU F)
theorem proved:Rows.CutsUptoCardSaid:=
 Claim7.holds_tied_plain_at .later [] [.data,.pinned,.pinned] true Rows.cutsUptoCard.stood.harness false Wo (fun _ h=>by cases h) (by kernel_rfl) (fun _ h=>by cases h) cutsUpto_row_tie rfl ⟨rfl,rfl⟩ (by kernel_rfl) rfl
  (fun f fn hf EU=>by
    obtain rfl:f=3:=C6 ((show prog.funcNamed Rows.cutsUptoRow.func=some 3 by kernel_rfl).symm.trans hf)|>.symm;obtain rfl:fn=Tryz.f3:=(C6 (func3.symm.trans EU)).symm
    exact⟨by kernel_rfl,fun j t ht=>by
     rw[params3]at ht;have hm:t∈ [9,9,22,3,3]:=(by simpa using Array.mem_of_getElem? ht);have nA:([9,9,22,3,3].all fun u=>!prog.wantsStandIn u)=true:=by kernel_rfl
     exact(show prog.wantsStandIn t=false by simpa using List.all_eq_true.1 nA t hm)⟩)
  (by kernel_rfl)
#print axioms proved
end Go.Proofs.YtpdnofhackjfdaaGreatDoor.cutsk
