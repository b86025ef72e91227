/- For every pattern, every row of parts and every two numbers, together of at most 1,048,576 values and letters: the law Sourced (promises P5, P11) returns true: Run over the parts of a text tells what Find tells of it, with the same error if it is no pattern; asked for fewer events it tells the first of them, with ErrStop; of a source that breaks it tells a beginning of them, with ErrSource, the source's code and the number of pieces. The row lists three tables of Go's library, tied to the program's text by the card: the tie is given. The frame of this text is the guide's worked one. -/
import Derived.Test.YtpdnofhackjfdaaGreatDoorCards
import Derived.Test.YtpdnofhackjfdaaGreatDoorTie
import Derived.Test.YtpdnofhackjfdaaGreatDoorP47
set_option linter.all false
set_option maxRecDepth 100000
namespace Go.Proofs.YtpdnofhackjfdaaGreatDoor.sourcedk
open Go.Proofs.Tryz
open Go.ChangeShapes Go.WideShapes Go.ChangeAt Go.RowKit
open Go.ChangeMaps (open_string shut_string)
open Go.Joins
theorem ahU(H:Type)(enc:TypeId×Value->H)(W:World)(base:Nat)(args:Array Value)(ds gs:List (DataW H))(before:List MemPlace)
 (acN:∀(j:Nat) t v,Tryz.f5.params[j]? =some t->args[j]? =some v->Value.okWide prog W .any base t v)
 (hW:DataW.Whole enc prog Tryz.f5.params.toList Rows.sourcedSpec.vars false W args.toList ds gs before)(hk:Rows.uptoSmall H (ds++gs)=true)(hL:laidMetH prog Rows.sourcedUptoRow.laid W):
 Calls prog 5 args W fun e W'=>∃v,e=.returned v/\Rows.sourcedSpec.post enc prog Tryz.f5 false true false false W args v W':=by
 have tA:∀(j:Nat) t v,Tryz.f5.params[j]? =some t->args[j]? =some v->Value.okWide prog W .any base t v:=acN
 have nO:=hW;obtain⟨p,q,hA0,hV,rfl,hfz,hnd⟩:=hW;have hA:DataW.TrodAll enc prog W 0 (fun _=>true) true Tryz.f5.params.toList args.toList ds p:=hA0;rw[params5]at hA tA;obtain⟨v0,vs0,d0,ds0,p0,q0,VT,rfl,rfl,h0,r0⟩:=trodAll_cons hA;obtain⟨v1,vs1,d1,ds1,p1,q1,aqo,rfl,rfl,h1,r1⟩:=trodAll_cons r0;obtain⟨v2,vs2,d2,ds2,p2,q2,aqp,rfl,rfl,h2,r2⟩:=trodAll_cons r1;obtain⟨v3,vs3,d3,ds3,p3,q3,aqq,rfl,rfl,h3,r3⟩:=trodAll_cons r2;obtain⟨rfl,rfl,rfl⟩:=trodAll_nil r3;obtain rfl:args=#[v0,v1,v2,v3]:=by cases args;simp_all
 obtain⟨rfl,rfl⟩:=trodVars_none hV;obtain⟨a0,rfl,rfl,rfl,w0⟩:=open_string underlying9 (tA 0 9 v0 rfl rfl) h0;obtain⟨P,hR,hb,JC⟩:=amp (tA 1 48 v1 rfl rfl) h1;obtain⟨x,rfl,rfl,rfl,wx⟩:=open_int underlying3 (tA 2 3 v2 rfl rfl) h2;obtain⟨y,rfl,rfl,rfl,wy⟩:=open_int underlying3 (tA 3 3 v3 rfl rfl) h3;have hx: -9223372036854775808<=x/\x<=9223372036854775807:=by simpa[Lit.wf,IntKind.min,IntKind.max,IntKind.signed,IntKind.bits]using wx
 have hy: -9223372036854775808<=y/\y<=9223372036854775807:=by simpa[Lit.wf,IntKind.min,IntKind.max,IntKind.signed,IntKind.bits]using wy
 clear hA0 acN
 have hz:(db P).size<=10000000/\P.length<=5000000:=by
  have h:Rows.uptoBulkAll [DataW.lit (H:=H) (.string a0.data.toList),d1,DataW.lit (H:=H) (.int .i64 x),DataW.lit (H:=H) (.int .i64 y)]<=1048576:=by simpa[Rows.uptoSmall]using hk
  simp only[Rows.uptoBulkAll]at h;omega
 refine(aoT a0 W w0 (aph hL) hR hz.1 hz.2 x y hx hy).mono fun e W' ⟨he,hg⟩=>?_
 subst he
 exact⟨_,rfl,anF (pa:=[]++(p1++([]++([]++[])))) (pv:=[]) nO (fun _ _ _=>(Fe (shut_bool underlying4 _) trodAll_mk0)) (fun sp JY=>(Fe (shut_string underlying9 w0) (Fe (JC W' hg sp (fun q hq=>JY q (by simp[hq]))) (Fe (shut_int underlying3 wx) (Fe (shut_int underlying3 wy) trodAll_mk0))))) (fun _ _=>rfl) rfl
  hg (ok_one (by kernel_rfl) rfl (okWide_bool_mk underlying4 _))⟩
theorem alk(os:Os)(ON:os.Started)(H:Type)(enc:TypeId×Value->H)(F:Stop.Interp):
 ReturnsInHanded {} Tryz.checked os 5 .any ((Rows.OpenSpec.upto Rows.sourcedSpec).preRow enc prog Tryz.f5 Rows.sourcedUptoRow.domain false Rows.sourcedUptoRow.laid) (((Rows.OpenSpec.upto Rows.sourcedSpec).at F).post enc prog Tryz.f5 false true false false):=by
 refine returnsInHanded_of_row (C:=Tryz.checked) (s:=Rows.OpenSpec.upto Rows.sourcedSpec) ay ON (by kernel_rfl) func5
  ⟨World.laidAll prog os Rows.sourcedUptoRow.laid,fun _ _=>0,⟨#[],#[.string ByteArray.empty,.slice none 0 0,.int .i64 0,.int .i64 0],[]⟩,World.laidAll_os _ _ _,World.shaped_of_ZipB (by kernel_rfl) (by kernel_rfl),rfl,
    (Input.okWide_of_okWideB (by kernel_rfl)).2,
    OpenSpec.preRow_of_cond 8 (x:=([.lit (.string []),.nil,.lit (.int .i64 0),.lit (.int .i64 0)],[],[])) (by kernel_rfl) (by kernel_rfl) (fun k hk=>by cases hk;kernel_rfl) (by kernel_rfl)
     (by rw[MakeChecks.laidMetH_plain _ _ _ (by kernel_rfl)];exact laidMet_laidAll _ (by kernel_rfl) (by kernel_rfl)),by
    simp only[Assume.holds];exact⟨by simp,by simp,fun _=>Modest.zero,by simp,by simp⟩⟩ ?_
 intro W base args ds gs before tA hW _ ajr _ hL _ _;exact ahU H enc W base args ds gs before tA hW (ajr _ rfl) hL
theorem XY:Rows.sourcedUptoRow.holds Tryz.pinned (Rows.OpenSpec.upto Rows.sourcedSpec):=
 OpenClaim.holds_of_cond 5 Tryz.f5 rfl rfl rfl rfl rfl rfl rfl ⟨rfl,rfl,rfl,rfl,rfl⟩ rfl rfl rfl rfl rfl (by kernel_rfl) func5 (by kernel_rfl)
  (of_decide_eq_true (by kernel_rfl)) (by unfold Func.isWrapper;first|(rw[if_pos (by decide+kernel)];kernel_rfl)|(rw[if_neg (by decide+kernel)];exact⟨rfl,rfl⟩))
  (fun os ON H enc _ F=>by rw[OpenClaim.pre_eq_preRow];exact alk os ON H enc F)
theorem proved:Rows.SourcedUptoCardSaid:=
 Claim7.holds_tied_plain_at .later [] [.data,.pinned,.pinned] true Rows.sourcedUptoCard.stood.harness false XY (fun _ h=>by cases h) (by kernel_rfl) (fun _ h=>by cases h) sourcedUpto_row_tie rfl ⟨rfl,rfl⟩ (by kernel_rfl) rfl
  (fun f fn hf G_=>by
    obtain rfl:f=5:=C9 ((show prog.funcNamed Rows.sourcedUptoRow.func=some 5 by kernel_rfl).symm.trans hf)|>.symm;obtain rfl:fn=Tryz.f5:=(C9 (func5.symm.trans G_)).symm
    exact⟨by kernel_rfl,fun j t ht=>by
     rw[params5]at ht;have hm:t∈ [9,48,3,3]:=(by simpa using Array.mem_of_getElem? ht);have nP:([9,48,3,3].all fun u=>!prog.wantsStandIn u)=true:=by kernel_rfl
     exact(show prog.wantsStandIn t=false by simpa using List.all_eq_true.1 nP t hm)⟩)
  (by kernel_rfl)
#print axioms proved
