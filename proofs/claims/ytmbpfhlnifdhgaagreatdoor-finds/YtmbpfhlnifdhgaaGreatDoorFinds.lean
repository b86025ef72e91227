/- For every pattern and every text -/
import Derived.Test.YtmbpfhlnifdhgaaGreatDoorCards
import Derived.Test.YtmbpfhlnifdhgaaGreatDoorTie
import Derived.Test.YtmbpfhlnifdhgaaGreatDoorP19
set_option linter.unusedVariables false
set_option linter.unusedSimpArgs false
set_option maxRecDepth 100000
namespace Go.Proofs.YtmbpfhlnifdhgaaGreatDoor.finds
open Go.Proofs.Tryz
open Go.ChangeShapes Go.WideShapes Go.ChangeAt Go.RowKit
open Go.ChangeMaps (open_string shut_string)
theorem apj(a0 a1:ByteArray)(w0:a0.size<=maxLen)(w1:a1.size<=maxLen)(w:World)(hT:j9 w):
 Calls prog 3 #[.string a0,.string a1] w fun e w'=>e=.returned (.bool true)/\I aq w w':=aie a0 a1 w w0 w1 hT
theorem akR(os:Os)(started:os.Started)(H:Type)(enc:TypeId×Value->H):
 ReturnsInHanded {} Tryz.checked os 3 .any (fun w args=>(Rows.findsSpec.pre enc prog Tryz.f3 Rows.findsRow.domain false w args/\laidMetH prog Rows.findsRow.laid w)/\sizedMet enc prog Tryz.f3 (OpenSpec.ofChange Rows.findsSpec) false w args)
  (Rows.findsSpec.post enc prog Tryz.f3 false true false false):=by
 refine returnsInHanded_of_change_and (C:=Tryz.checked) (X:=fun w _=>laidMetH prog Rows.findsRow.laid w) (fun _ _ _ hh h=>h.of_heap hh) aN started (by kernel_rfl) func3
  (ChangeSpec.witness_shaped (enc:=enc) (C:=Tryz.checked) (os:=os) (X:=fun w _=>laidMetH prog Rows.findsRow.laid w) false (World.laidAll prog os Rows.findsRow.laid) #[.string ByteArray.empty,.string ByteArray.empty] 8 (World.laidAll_os _ _ _)
    (World.shaped_of_ZipB (by kernel_rfl) (by kernel_rfl)) (by kernel_rfl) (by kernel_rfl) (by kernel_rfl)
    (by rw[MakeChecks.laidMetH_plain _ _ _ (by kernel_rfl)];exact laidMet_laidAll _ (by kernel_rfl) (by kernel_rfl))) ?_
 intro W base args ds gs before acv hW _ _ hL _;have zG:∀(j:Nat) t v,Tryz.f3.params[j]? =some t->args[j]? =some v->Value.okWide prog W .any base t v:=acv
 have nN:=hW;obtain⟨p,q,hA0,hV,rfl,hfz,dM⟩:=hW;have hA:DataW.TrodAll enc prog W 0 (fun _=>true) true Tryz.f3.params.toList args.toList ds p:=hA0;rw[params3]at hA zG;obtain⟨v0,vs0,d0,ds0,p0,q0,U0,rfl,rfl,h0,r0⟩:=trodAll_cons hA;obtain⟨v1,vs1,d1,ds1,p1,q1,apR,rfl,rfl,h1,r1⟩:=trodAll_cons r0;obtain⟨rfl,rfl,rfl⟩:=trodAll_nil r1;obtain rfl:args=#[v0,v1]:=by cases args;simp_all
 obtain⟨rfl,rfl⟩:=trodVars_none hV;obtain⟨a0,rfl,rfl,rfl,w0⟩:=open_string underlying9 (zG 0 9 v0 rfl rfl) h0;obtain⟨a1,rfl,rfl,rfl,w1⟩:=open_string underlying9 (zG 1 9 v1 rfl rfl) h1;clear hA0 acv;simp only[C8]at nN;refine(apj a0 a1 w0 w1 W (an5 hL)).mono fun e W' ⟨he,hg⟩=>?_
 subst he
 exact⟨_,rfl,amI nN (fun _ _ _=>(trodAll_cons_mk (shut_bool underlying4 _) trodAll_mk0)) (fun sp=>(trodAll_cons_mk (shut_string underlying9 w0) (trodAll_cons_mk (shut_string underlying9 w1) trodAll_mk0))) (fun _=>rfl)
  hg (ok_one (by kernel_rfl) rfl (okWide_bool_mk underlying4 _))⟩
theorem Nu:Rows.findsRow.holds Tryz.pinned (OpenSpec.ofChange Rows.findsSpec):=
 OpenClaim.holds_of_wide 3 Tryz.f3 rfl rfl rfl rfl rfl rfl rfl ⟨rfl,rfl,rfl,rfl,rfl⟩ rfl rfl rfl rfl rfl (by kernel_rfl) func3 (by kernel_rfl)
  (of_decide_eq_true (by kernel_rfl)) (by unfold Func.isWrapper;first|(rw[if_pos (by decide+kernel)];kernel_rfl)|(rw[if_neg (by decide+kernel)];exact⟨rfl,rfl⟩))
  (fun os started H enc _=>akR os started H enc)
theorem proved:Rows.FindsCardSaid:=
 Claim7.holds_tied_plain_at .later [] [.data,.pinned,.pinned] true Rows.findsCard.stood.harness false Nu (fun _ h=>by cases h) (by kernel_rfl) (fun _ h=>by cases h) finds_row_tie rfl ⟨rfl,rfl⟩ (by kernel_rfl) rfl
  (fun f fn hf Qd=>by
    obtain rfl:f=3:=Cr ((show prog.funcNamed Rows.findsRow.func=some 3 by kernel_rfl).symm.trans hf)|>.symm;obtain rfl:fn=Tryz.f3:=(Cr (func3.symm.trans Qd)).symm
    exact⟨by kernel_rfl,fun j t ht=>by
     rw[params3]at ht;have hm:t∈ [9,9]:=(by simpa using Array.mem_of_getElem? ht);have qI:([9,9].all fun u=>!prog.wantsStandIn u)=true:=by kernel_rfl
     exact(show prog.wantsStandIn t=false by simpa using List.all_eq_true.1 qI t hm)⟩)
  (by kernel_rfl)
#print axioms proved
end Go.Proofs.YtmbpfhlnifdhgaaGreatDoor.finds
