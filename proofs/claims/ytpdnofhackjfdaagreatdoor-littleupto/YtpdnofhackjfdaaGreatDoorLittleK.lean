/- For every two rows of numbers, together of at most 1,048,576 values: the law Little (promises P8, P9) returns true: a Stream that looks for a word which begins with x, and gets a text of the letters a, b, c letter by letter, keeps nothing and tells nothing of it; of the word behind it it keeps no more than the word; shut, it has told that one match and keeps nothing. The row lists three tables of Go's library, tied to the program's text by the card: the tie is given. The frame of this text is the guide's worked example. -/
import Derived.Test.YtpdnofhackjfdaaGreatDoorCards
import Derived.Test.YtpdnofhackjfdaaGreatDoorTie
import Derived.Test.YtpdnofhackjfdaaGreatDoorP46
set_option linter.all false
set_option maxRecDepth 100000
namespace Go.Proofs.YtpdnofhackjfdaaGreatDoor.littlek
open Go.Proofs.Tryz
open Go.ChangeShapes Go.WideShapes Go.ChangeAt Go.RowKit
open Go.ChangeMaps (open_string shut_string)
open Go.Joins
theorem ag7(H:Type)(oo:TypeId×Value->H)(W:World)(base:Nat)(args:Array Value)(ds gs:List (DataW H))(before:List MemPlace)
 (ab3:∀(j:Nat) t v,Tryz.f4.params[j]? =some t->args[j]? =some v->Value.okWide prog W .any base t v)
 (hW:DataW.Whole oo prog Tryz.f4.params.toList Rows.littleSpec.vars false W args.toList ds gs before)(hk:Rows.uptoSmall H (ds++gs)=true)(hL:laidMetH prog Rows.littleUptoRow.laid W):
 Calls prog 4 args W fun e W'=>∃v,e=.returned v/\Rows.littleSpec.post oo prog Tryz.f4 false true false false W args v W':=by
 have vG:∀(j:Nat) t v,Tryz.f4.params[j]? =some t->args[j]? =some v->Value.okWide prog W .any base t v:=ab3
 have nE:=hW;obtain⟨p,q,hA0,hV,rfl,hfz,hnd⟩:=hW;have hA:DataW.TrodAll oo prog W 0 (fun _=>true) true Tryz.f4.params.toList args.toList ds p:=hA0;rw[params4]at hA vG;obtain⟨v0,vs0,d0,ds0,p0,q0,UG,rfl,rfl,h0,r0⟩:=trodAll_cons hA;obtain⟨v1,vs1,d1,ds1,p1,q1,apT,rfl,rfl,h1,r1⟩:=trodAll_cons r0;obtain⟨rfl,rfl,rfl⟩:=trodAll_nil r1;obtain rfl:args=#[v0,v1]:=by cases args;simp_all
 obtain⟨rfl,rfl⟩:=trodVars_none hV;obtain⟨zs,hR,hb,I0⟩:=adg (vG 0 22 v0 rfl rfl) h0;obtain⟨ys,IX,iW,aiK⟩:=adg (vG 1 22 v1 rfl rfl) h1;clear hA0 ab3
 have hz:zs.length<=9000000/\ys.length<=9000000:=by
  have h:Rows.uptoBulkAll [d0,d1]<=1048576:=by simpa[Rows.uptoSmall]using hk
  simp only[Rows.uptoBulkAll]at h;omega
 refine(akH hR IX hz.1 hz.2 (aoH hL)).mono fun e W' ⟨he,hg⟩=>?_
 subst he
 exact⟨_,rfl,am9 (pa:=p0++(p1++[])) (pv:=[]) nE (fun _ _ _=>(trodAll_cons_mk (shut_bool underlying4 _) trodAll_mk0)) (fun sp QB=>(trodAll_cons_mk (I0 W' hg sp (fun q hq=>QB q (by simp[hq]))) (trodAll_cons_mk (aiK W' hg sp (fun q hq=>QB q (by simp[hq]))) trodAll_mk0))) (fun _ _=>rfl) rfl
  hg (ok_one (by kernel_rfl) rfl (okWide_bool_mk underlying4 _))⟩
theorem akG(os:Os)(NI:os.Started)(H:Type)(oo:TypeId×Value->H)(F:Stop.Interp):
 ReturnsInHanded {} Tryz.checked os 4 .any ((Rows.OpenSpec.upto Rows.littleSpec).preRow oo prog Tryz.f4 Rows.littleUptoRow.domain false Rows.littleUptoRow.laid) (((Rows.OpenSpec.upto Rows.littleSpec).at F).post oo prog Tryz.f4 false true false false):=by
 refine returnsInHanded_of_row (C:=Tryz.checked) (s:=Rows.OpenSpec.upto Rows.littleSpec) au NI (by kernel_rfl) func4
  ⟨World.laidAll prog os Rows.littleUptoRow.laid,fun _ _=>0,⟨#[],#[.slice none 0 0,.slice none 0 0],[]⟩,World.laidAll_os _ _ _,World.shaped_of_ZipB (by kernel_rfl) (by kernel_rfl),rfl,
    (Input.okWide_of_okWideB (by kernel_rfl)).2,
    OpenSpec.preRow_of_cond 8 (x:=([.nil,.nil],[],[])) (by kernel_rfl) (by kernel_rfl) (fun k hk=>by cases hk;kernel_rfl) (by kernel_rfl)
     (by rw[MakeChecks.laidMetH_plain _ _ _ (by kernel_rfl)];exact laidMet_laidAll _ (by kernel_rfl) (by kernel_rfl)),by
    simp only[Assume.holds];exact⟨by simp,by simp,fun _=>Modest.zero,by simp,by simp⟩⟩ ?_
 intro W base args ds gs before vG hW _ aiP _ hL _ _;exact ag7 H oo W base args ds gs before vG hW (aiP _ rfl) hL
theorem WE:Rows.littleUptoRow.holds Tryz.pinned (Rows.OpenSpec.upto Rows.littleSpec):=
 OpenClaim.holds_of_cond 4 Tryz.f4 rfl rfl rfl rfl rfl rfl rfl ⟨rfl,rfl,rfl,rfl,rfl⟩ rfl rfl rfl rfl rfl (by kernel_rfl) func4 (by kernel_rfl)
  (of_decide_eq_true (by kernel_rfl)) (by unfold Func.isWrapper;first|(rw[if_pos (by decide+kernel)];kernel_rfl)|(rw[if_neg (by decide+kernel)];exact⟨rfl,rfl⟩))
  (fun os NI H oo _ F=>by rw[OpenClaim.pre_eq_preRow];exact akG os NI H oo F)
theorem proved:Rows.LittleUptoCardSaid:=
 Claim7.holds_tied_plain_at .later [] [.data,.pinned,.pinned] true Rows.littleUptoCard.stood.harness false WE (fun _ h=>by cases h) (by kernel_rfl) (fun _ h=>by cases h) littleUpto_row_tie rfl ⟨rfl,rfl⟩ (by kernel_rfl) rfl
  (fun f fn hf Gk=>by
    obtain rfl:f=4:=C6 ((show prog.funcNamed Rows.littleUptoRow.func=some 4 by kernel_rfl).symm.trans hf)|>.symm;obtain rfl:fn=Tryz.f4:=(C6 (func4.symm.trans Gk)).symm
    exact⟨by kernel_rfl,fun j t ht=>by
     rw[params4]at ht;have hm:t∈ [22,22]:=(by simpa using Array.mem_of_getElem? ht);have nF:([22,22].all fun u=>!prog.wantsStandIn u)=true:=by kernel_rfl
     exact(show prog.wantsStandIn t=false by simpa using List.all_eq_true.1 nF t hm)⟩)
  (by kernel_rfl)
#print axioms proved
